/- SuperNewer, walked. -/
import Derived.Test.YtbjnbobohkjhiabSupT
namespace Go.Proofs.Ytbjnbobohkjhiab
set_option linter.unusedVariables false
open Go.RowKit

set_option maxHeartbeats 8000000 in
set_option maxRecDepth 100000 in
theorem newer_walk (w : World) (a b root : Int) : Calls Try.prog 3 #[.int .i64 a, .int .i64 b, .int .i64 root] w fun e w' => e = .returned (.bool true) ∧ Below w.heap.size w w' := by
  have m1 := and24 a
  have m2 := and24 b
  have m3 := and65535 root
  obtain ⟨eg, heg⟩ : ∃ eg, eg = 2 + 2 * (a % 16777216) := ⟨_, rfl⟩
  obtain ⟨og, hog⟩ : ∃ og, og = 1 + 2 * (b % 16777216) := ⟨_, rfl⟩
  obtain ⟨er, her⟩ : ∃ er, er = 2 + root % 65536 := ⟨_, rfl⟩
  obtain ⟨orr, hor⟩ : ∃ orr, orr = 3 + root % 65536 := ⟨_, rfl⟩
  have rE : right ⟨eg, er, 2, 0, []⟩ = true := by
    simp [right, okRoot, okFrom]
    omega
  have rO : right ⟨og, orr, 3, 0, []⟩ = true := by
    simp [right, okRoot, okFrom]
    omega
  have pE : eg % 2 = 0 := by omega
  have pO : og % 2 = 1 := by omega
  have gE : 1 ≤ eg := by omega
  have gO : 1 ≤ og := by omega
  have vE0 : validP (enc ⟨eg, er, 2, 0, []⟩) 0 = some ⟨eg, er, 2, 0, []⟩ := by rw [validP_enc _ rE, if_pos pE]
  have vE1 : validP (enc ⟨eg, er, 2, 0, []⟩) 1 = none := by rw [validP_enc _ rE, if_neg (by simp only; omega)]
  have vO1 : validP (enc ⟨og, orr, 3, 0, []⟩) 1 = some ⟨og, orr, 3, 0, []⟩ := by rw [validP_enc _ rO, if_pos pO]
  have vO0 : validP (enc ⟨og, orr, 3, 0, []⟩) 0 = none := by rw [validP_enc _ rO, if_neg (by simp only; omega)]
  have C1 : Hid (chooseP (enc ⟨eg, er, 2, 0, []⟩) (enc ⟨og, orr, 3, 0, []⟩) = some (if eg < og then ⟨og, orr, 3, 0, []⟩ else ⟨eg, er, 2, 0, []⟩)) := (show _ = _ by
    rw [chooseP, vE0, vO1]
    simp only [Option.getD_some]
    split <;> rfl)
  have C2 : Hid (chooseP (enc ⟨og, orr, 3, 0, []⟩) (enc ⟨eg, er, 2, 0, []⟩) = none) := (show _ = _ by rw [chooseP, vO0, vE1]; rfl)
  have C3 : Hid (chooseP (enc ⟨eg, er, 2, 0, []⟩) (enc ⟨eg, er, 2, 0, []⟩) = some ⟨eg, er, 2, 0, []⟩) := (show _ = _ by rw [chooseP, vE0, vE1, if_neg (by simp [nilU]; omega)])
  have C4 : Hid (chooseP (enc ⟨og, orr, 3, 0, []⟩) (enc ⟨og, orr, 3, 0, []⟩) = some ⟨og, orr, 3, 0, []⟩) := (show _ = _ by rw [chooseP, vO0, vO1, if_pos (by simp [nilU]; omega)])
  have C5 : Hid (chooseP [] (enc ⟨og, orr, 3, 0, []⟩) = some ⟨og, orr, 3, 0, []⟩) := (show _ = _ by rw [chooseP, validP_nil, vO1, if_pos (by simp [nilU]; omega)])
  have RE : Hid (right ⟨eg, er, 2, 0, []⟩ = true) := rE
  have RO : Hid (right ⟨og, orr, 3, 0, []⟩ = true) := rO
  have HEG : Hid (eg = 2 + 2 * (a % 16777216) ∧ er = 2 + root % 65536) := ⟨heg, her⟩
  have HOG : Hid (og = 1 + 2 * (b % 16777216) ∧ orr = 3 + root % 65536) := ⟨hog, hor⟩
  clear rE rO vE0 vE1 vO1 vO0 pE pO gE gO heg her hog hor
  go_enter Try.func3, Try.ntmps3
  go_upto_region 2 with (go_at_call 4; refine (shown_calls _).mono ?_; rintro e w0 ⟨rfl, b0⟩)
  have H0 := (Held.start w).called b0
  clear b0
  go_upto_region 3 with fail
  rw [← HEG.out.1, ← HEG.out.2]
  have H1 := H0.made ⟨eg, er, 2, 0, []⟩ (.slice none 0 0) rfl
  clear H0
  generalize w0.alloc (.cells #[.int .i64 eg, .int .i64 er, .int .i64 2, .int .i64 0, .slice none 0 0] 25) = x1 at *
  go_upto_region 4 with fail
  clear m1
  rw [← HOG.out.1, ← HOG.out.2]
  clear m2 m3
  have H2 := H1.made ⟨og, orr, 3, 0, []⟩ (.slice none 0 0) rfl
  clear H1
  generalize x1.alloc (.cells #[.int .i64 og, .int .i64 orr, .int .i64 3, .int .i64 0, .slice none 0 0] 25) = x2 at *
  generalize w0.heap.size = bE at *
  generalize x1.heap.size = bO at *
  have u1 := H2.u (bE, ⟨eg, er, 2, 0, []⟩, .slice none 0 0) (by simp)
  go_upto_region 5 with (first
    | (refine load_sup _ rfl bE rfl rfl _ _ u1 ?_)
    | (go_at_call 5; refine (bytes_sna (S := ⟨eg, er, 2, 0, []⟩) (Sna.nil _)).mono ?_; rintro e w3 ⟨b3, ⟨hf, _⟩ | ⟨_, a1, c1, rfl, by1⟩⟩; · rw [RE.out] at hf; cases hf))
  have H3 := (H2.called b3).addB by1
  clear H2 b3 by1 u1
  have u1 := H3.u (bO, ⟨og, orr, 3, 0, []⟩, .slice none 0 0) (by simp)
  go_upto_region 6 with (first
    | (refine load_sup _ rfl bO rfl rfl _ _ u1 ?_)
    | (go_at_call 5; refine (bytes_sna (S := ⟨og, orr, 3, 0, []⟩) (Sna.nil _)).mono ?_; rintro e w4 ⟨b4, ⟨hf, _⟩ | ⟨_, a2, c2, rfl, by2⟩⟩; · rw [RO.out] at hf; cases hf))
  have H4 := (H3.called b4).addB by2
  clear H3 b4 by2 u1
  have u1 := H4.u (bE, ⟨eg, er, 2, 0, []⟩, .slice none 0 0) (by simp)
  go_upto_region 7 with (first
    | (refine load_sup _ rfl bE rfl rfl _ _ u1 ?_)
    | (refine store_sup rfl _ _ rfl w4.heap.size rfl ⟨eg, er, 2, 0, []⟩ (.slice none 0 0) rfl rfl nilU (.slice none 0 0) (HasU.new w4 nilU (.slice none 0 0) _ rfl rfl) ?_; intro x5 hu5 tx5 sx5))
  have B5 : Below w4.heap.size w4 x5 := step_below (Below.refl _ w4) _ tx5
  have K5 := H4.called B5
  clear tx5 sx5 u1
  obtain ⟨qE, _⟩ := (K5.u (bE, ⟨eg, er, 2, 0, []⟩, .slice none 0 0) (by simp)).cells
  obtain ⟨qO, _⟩ := (K5.u (bO, ⟨og, orr, 3, 0, []⟩, .slice none 0 0) (by simp)).cells
  simp only at qE qO
  by_cases hlt : eg < og
  · have uO := K5.u (bO, ⟨og, orr, 3, 0, []⟩, .slice none 0 0) (by simp)
    go_upto_region 9 with (first
      | (refine load_sup _ rfl bO rfl rfl _ _ uO ?_)
      | (refine store_sup rfl _ _ rfl w4.heap.size rfl ⟨og, orr, 3, 0, []⟩ (.slice none 0 0) rfl rfl ⟨eg, er, 2, 0, []⟩ (.slice none 0 0) hu5 ?_; intro x6 hu6 tx6 sx6))
    have H6 := (H4.called (below_rowed B5 tx6 (Nat.le_refl _) (Nat.le_refl _))).addU hu6
    clear H4 B5 K5 qE qO hu5 hu6 tx6 sx6 uO
    generalize w4.heap.size = bW at *
    have D1 : Hid (chooseP (enc ⟨eg, er, 2, 0, []⟩) (enc ⟨og, orr, 3, 0, []⟩) = some ⟨og, orr, 3, 0, []⟩) := (show _ = _ by rw [C1.out, if_pos hlt])
    go_upto_region 10 with (first
      | (go_at_call 6; refine (choose_byt (H6.b (Value.slice a1 512 c1, enc ⟨eg, er, 2, 0, []⟩) (by simp)) (H6.b (Value.slice a2 512 c2, enc ⟨og, orr, 3, 0, []⟩) (by simp))).mono ?_; intro e w7 ho7; rw [D1.out] at ho7; obtain ⟨sv7, rfl, sn7, b7⟩ := ho7.sna)
      | (refine store_sup rfl _ _ rfl w7.heap.size rfl (⟨og, orr, 3, 0, []⟩) sv7 rfl sn7.one nilU (.slice none 0 0) (HasU.new w7 nilU (.slice none 0 0) _ rfl rfl) ?_; intro x7 hu7 tx7 sx7))
    have H7 := (H6.called b7).stored hu7 tx7
    clear b7 sn7 tx7 sx7 ho7 hu7 H6
    generalize w7.heap.size = d7 at *
    go_upto_region 11 with (first
      | (go_at_call 6; refine (choose_byt (H7.b (Value.slice a2 512 c2, enc ⟨og, orr, 3, 0, []⟩) (by simp)) (H7.b (Value.slice a1 512 c1, enc ⟨eg, er, 2, 0, []⟩) (by simp))).mono ?_; intro e w8 ho8; rw [C2.out] at ho8; obtain ⟨sv8, rfl, sn8, b8⟩ := ho8.sna)
      | (refine store_sup rfl _ _ rfl w8.heap.size rfl (nilU) sv8 rfl sn8.one nilU (.slice none 0 0) (HasU.new w8 nilU (.slice none 0 0) _ rfl rfl) ?_; intro x8 hu8 tx8 sx8))
    have H8 := (H7.called b8).stored hu8 tx8
    clear b8 sn8 tx8 sx8 ho8 hu8 H7
    generalize w8.heap.size = d8 at *
    go_upto_region 12 with (first
      | (go_at_call 6; refine (choose_byt (H8.b (Value.slice a1 512 c1, enc ⟨eg, er, 2, 0, []⟩) (by simp)) (H8.b (Value.slice a1 512 c1, enc ⟨eg, er, 2, 0, []⟩) (by simp))).mono ?_; intro e w9 ho9; rw [C3.out] at ho9; obtain ⟨sv9, rfl, sn9, b9⟩ := ho9.sna)
      | (refine store_sup rfl _ _ rfl w9.heap.size rfl (⟨eg, er, 2, 0, []⟩) sv9 rfl sn9.one nilU (.slice none 0 0) (HasU.new w9 nilU (.slice none 0 0) _ rfl rfl) ?_; intro x9 hu9 tx9 sx9))
    have H9 := (H8.called b9).stored hu9 tx9
    clear b9 sn9 tx9 sx9 ho9 hu9 H8
    generalize w9.heap.size = d9 at *
    go_upto_region 13 with (first
      | (go_at_call 6; refine (choose_byt (H9.b (Value.slice a2 512 c2, enc ⟨og, orr, 3, 0, []⟩) (by simp)) (H9.b (Value.slice a2 512 c2, enc ⟨og, orr, 3, 0, []⟩) (by simp))).mono ?_; intro e w10 ho10; rw [C4.out] at ho10; obtain ⟨sv10, rfl, sn10, b10⟩ := ho10.sna)
      | (refine store_sup rfl _ _ rfl w10.heap.size rfl (⟨og, orr, 3, 0, []⟩) sv10 rfl sn10.one nilU (.slice none 0 0) (HasU.new w10 nilU (.slice none 0 0) _ rfl rfl) ?_; intro x10 hu10 tx10 sx10))
    have H10 := (H9.called b10).stored hu10 tx10
    clear b10 sn10 tx10 sx10 ho10 hu10 H9
    generalize w10.heap.size = d10 at *
    go_upto_region 14 with (first
      | (go_at_call 6; refine (choose_byt (Byt.nil _) (H10.b (Value.slice a2 512 c2, enc ⟨og, orr, 3, 0, []⟩) (by simp))).mono ?_; intro e w11 ho11; rw [C5.out] at ho11; obtain ⟨sv11, rfl, sn11, b11⟩ := ho11.sna)
      | (refine store_sup rfl _ _ rfl w11.heap.size rfl (⟨og, orr, 3, 0, []⟩) sv11 rfl sn11.one nilU (.slice none 0 0) (HasU.new w11 nilU (.slice none 0 0) _ rfl rfl) ?_; intro x11 hu11 tx11 sx11))
    have H11 := (H10.called b11).stored hu11 tx11
    clear b11 sn11 tx11 sx11 ho11 hu11 H10
    generalize w11.heap.size = d11 at *
    obtain ⟨p1, p2, _⟩ := (H11.u (d7, ⟨og, orr, 3, 0, []⟩, sv7) (by simp)).cells
    obtain ⟨p3, p4, _⟩ := (H11.u (bW, ⟨og, orr, 3, 0, []⟩, .slice none 0 0) (by simp)).cells
    obtain ⟨p5, _⟩ := (H11.u (d9, ⟨eg, er, 2, 0, []⟩, sv9) (by simp)).cells
    obtain ⟨p6, _⟩ := (H11.u (bE, ⟨eg, er, 2, 0, []⟩, .slice none 0 0) (by simp)).cells
    obtain ⟨p7, _⟩ := (H11.u (d10, ⟨og, orr, 3, 0, []⟩, sv10) (by simp)).cells
    obtain ⟨p8, _⟩ := (H11.u (bO, ⟨og, orr, 3, 0, []⟩, .slice none 0 0) (by simp)).cells
    obtain ⟨p9, _⟩ := (H11.u (d11, ⟨og, orr, 3, 0, []⟩, sv11) (by simp)).cells
    simp only at p1 p2 p3 p4 p5 p6 p7 p8 p9
    have ec : ∀ S, code (some S) = 0 := fun _ => rfl
    have en : code none = 12 := rfl
    have BB := H11.bel
    clear H11 C1 C2 C3 C4 C5 D1 RE RO HEG HOG
    go_wp2
    go_ret
    exact ⟨rfl, BB⟩
  · go_upto_region 9 with fail
    have H6 := (H4.called B5).addU hu5
    clear H4 B5 K5 qE qO hu5
    generalize w4.heap.size = bW at *
    have D1 : Hid (chooseP (enc ⟨eg, er, 2, 0, []⟩) (enc ⟨og, orr, 3, 0, []⟩) = some ⟨eg, er, 2, 0, []⟩) := (show _ = _ by rw [C1.out, if_neg hlt])
    go_upto_region 10 with (first
      | (go_at_call 6; refine (choose_byt (H6.b (Value.slice a1 512 c1, enc ⟨eg, er, 2, 0, []⟩) (by simp)) (H6.b (Value.slice a2 512 c2, enc ⟨og, orr, 3, 0, []⟩) (by simp))).mono ?_; intro e w7 ho7; rw [D1.out] at ho7; obtain ⟨sv7, rfl, sn7, b7⟩ := ho7.sna)
      | (refine store_sup rfl _ _ rfl w7.heap.size rfl (⟨eg, er, 2, 0, []⟩) sv7 rfl sn7.one nilU (.slice none 0 0) (HasU.new w7 nilU (.slice none 0 0) _ rfl rfl) ?_; intro x7 hu7 tx7 sx7))
    have H7 := (H6.called b7).stored hu7 tx7
    clear b7 sn7 tx7 sx7 ho7 hu7 H6
    generalize w7.heap.size = d7 at *
    go_upto_region 11 with (first
      | (go_at_call 6; refine (choose_byt (H7.b (Value.slice a2 512 c2, enc ⟨og, orr, 3, 0, []⟩) (by simp)) (H7.b (Value.slice a1 512 c1, enc ⟨eg, er, 2, 0, []⟩) (by simp))).mono ?_; intro e w8 ho8; rw [C2.out] at ho8; obtain ⟨sv8, rfl, sn8, b8⟩ := ho8.sna)
      | (refine store_sup rfl _ _ rfl w8.heap.size rfl (nilU) sv8 rfl sn8.one nilU (.slice none 0 0) (HasU.new w8 nilU (.slice none 0 0) _ rfl rfl) ?_; intro x8 hu8 tx8 sx8))
    have H8 := (H7.called b8).stored hu8 tx8
    clear b8 sn8 tx8 sx8 ho8 hu8 H7
    generalize w8.heap.size = d8 at *
    go_upto_region 12 with (first
      | (go_at_call 6; refine (choose_byt (H8.b (Value.slice a1 512 c1, enc ⟨eg, er, 2, 0, []⟩) (by simp)) (H8.b (Value.slice a1 512 c1, enc ⟨eg, er, 2, 0, []⟩) (by simp))).mono ?_; intro e w9 ho9; rw [C3.out] at ho9; obtain ⟨sv9, rfl, sn9, b9⟩ := ho9.sna)
      | (refine store_sup rfl _ _ rfl w9.heap.size rfl (⟨eg, er, 2, 0, []⟩) sv9 rfl sn9.one nilU (.slice none 0 0) (HasU.new w9 nilU (.slice none 0 0) _ rfl rfl) ?_; intro x9 hu9 tx9 sx9))
    have H9 := (H8.called b9).stored hu9 tx9
    clear b9 sn9 tx9 sx9 ho9 hu9 H8
    generalize w9.heap.size = d9 at *
    go_upto_region 13 with (first
      | (go_at_call 6; refine (choose_byt (H9.b (Value.slice a2 512 c2, enc ⟨og, orr, 3, 0, []⟩) (by simp)) (H9.b (Value.slice a2 512 c2, enc ⟨og, orr, 3, 0, []⟩) (by simp))).mono ?_; intro e w10 ho10; rw [C4.out] at ho10; obtain ⟨sv10, rfl, sn10, b10⟩ := ho10.sna)
      | (refine store_sup rfl _ _ rfl w10.heap.size rfl (⟨og, orr, 3, 0, []⟩) sv10 rfl sn10.one nilU (.slice none 0 0) (HasU.new w10 nilU (.slice none 0 0) _ rfl rfl) ?_; intro x10 hu10 tx10 sx10))
    have H10 := (H9.called b10).stored hu10 tx10
    clear b10 sn10 tx10 sx10 ho10 hu10 H9
    generalize w10.heap.size = d10 at *
    go_upto_region 14 with (first
      | (go_at_call 6; refine (choose_byt (Byt.nil _) (H10.b (Value.slice a2 512 c2, enc ⟨og, orr, 3, 0, []⟩) (by simp))).mono ?_; intro e w11 ho11; rw [C5.out] at ho11; obtain ⟨sv11, rfl, sn11, b11⟩ := ho11.sna)
      | (refine store_sup rfl _ _ rfl w11.heap.size rfl (⟨og, orr, 3, 0, []⟩) sv11 rfl sn11.one nilU (.slice none 0 0) (HasU.new w11 nilU (.slice none 0 0) _ rfl rfl) ?_; intro x11 hu11 tx11 sx11))
    have H11 := (H10.called b11).stored hu11 tx11
    clear b11 sn11 tx11 sx11 ho11 hu11 H10
    generalize w11.heap.size = d11 at *
    obtain ⟨p1, p2, _⟩ := (H11.u (d7, ⟨eg, er, 2, 0, []⟩, sv7) (by simp)).cells
    obtain ⟨p3, p4, _⟩ := (H11.u (bW, ⟨eg, er, 2, 0, []⟩, .slice none 0 0) (by simp)).cells
    obtain ⟨p5, _⟩ := (H11.u (d9, ⟨eg, er, 2, 0, []⟩, sv9) (by simp)).cells
    obtain ⟨p6, _⟩ := (H11.u (bE, ⟨eg, er, 2, 0, []⟩, .slice none 0 0) (by simp)).cells
    obtain ⟨p7, _⟩ := (H11.u (d10, ⟨og, orr, 3, 0, []⟩, sv10) (by simp)).cells
    obtain ⟨p8, _⟩ := (H11.u (bO, ⟨og, orr, 3, 0, []⟩, .slice none 0 0) (by simp)).cells
    obtain ⟨p9, _⟩ := (H11.u (d11, ⟨og, orr, 3, 0, []⟩, sv11) (by simp)).cells
    simp only at p1 p2 p3 p4 p5 p6 p7 p8 p9
    have ec : ∀ S, code (some S) = 0 := fun _ => rfl
    have en : code none = 12 := rfl
    have BB := H11.bel
    clear H11 C1 C2 C3 C4 C5 D1 RE RO HEG HOG
    go_wp2
    go_ret
    exact ⟨rfl, BB⟩
end Go.Proofs.Ytbjnbobohkjhiab
