/- The law VectorTurns: it answers true, whatever the three points; and the claim. -/
import Derived.Test.YthlidkmalfjmbaaAwk
import Derived.Test.YthlidkmalfjmbaaGeo
import Derived.Test.YthlidkmalfjmbaaLift
namespace Go.Proofs.Ythlidkmalfjmbaa
open Go.ChangeShapes Go.WideShapes Go.ChangeAt Go.RowKit

theorem errP3 {ax ay bx b_y cx cy : Int} : errP [(ax, ay), (bx, b_y), (cx, cy)] = if (inC ax && inC ay) && ((inC bx && inC b_y) && (inC cx && inC cy)) then 0 else 6 := by simp [errP, inP]
set_option maxHeartbeats 4000000 in
theorem turns_ok (ax ay bx b_y cx cy : Int) (h : inP3 ax ay bx b_y cx cy) (w : World) :
    Calls Try.prog 6 #[.agg #[.int .i64 ax, .int .i64 ay], .agg #[.int .i64 bx, .int .i64 b_y], .agg #[.int .i64 cx, .int .i64 cy]] w fun e w' => e = .returned (.bool true) ∧ Below w.heap.size w w' := by
  obtain ⟨⟨h1, h2⟩, ⟨h3, h4⟩, ⟨h5, h6⟩⟩ := h
  have he : errP [(ax, ay), (bx, b_y), (cx, cy)] = 0 := by rw [errP3]; simp [h1, h2, h3, h4, h5, h6]
  have c1 := Turn_ok ax ay bx b_y cx cy he
  have c2 := On_ok ax ay bx b_y cx cy he
  have c3 := refTurn_any ax ay bx b_y cx cy
  have c4 := refOn_any ax ay bx b_y cx cy
  have i1 := inPoint_any ax ay
  have i2 := inPoint_any bx b_y
  have i3 := inPoint_any cx cy
  rw [h1, h2] at i1
  rw [h3, h4] at i2
  rw [h5, h6] at i3
  have hp : inP3 ax ay bx b_y cx cy := ⟨⟨h1, h2⟩, ⟨h3, h4⟩, ⟨h5, h6⟩⟩
  have k1 : cmpI (lft ax ay bx cy) (rgt ax ay b_y cx) = sgnI (crs ax ay bx b_y cx cy) := trn_eq hp
  rw [k1] at c1
  rw [ref_eq hp] at c3
  rw [(on_eq hp).1] at c2
  simp only [Bool.and_self] at i1 i2 i3
  clear he h1 h2 h3 h4 h5 h6 k1 hp
  generalize sgnI (crs ax ay bx b_y cx cy) = s at c1 c3
  generalize onB ax ay bx b_y cx cy = o at c2 c4
  go_enter Try.func6, Try.ntmps6
  go_wp2_with (first
    | (go_at_call 12; refine (awake_any _).mono ?_; rintro e w0 ⟨rfl, hb0⟩; obtain ⟨hc0, hf0⟩ := bcell hb0; have hz0 := hb0.size; (try simp at hz0); (try have y00 : w.heap.size < w0.heap.size := (by omega)); (try have y00p : w.heap.size < w0.heap.size + 1 := (by omega)); (try have y01 : w.heap.size + 1 < w0.heap.size := (by omega)); (try have y01p : w.heap.size + 1 < w0.heap.size + 1 := (by omega)); (try have y02 : w.heap.size + 1 + 1 < w0.heap.size := (by omega)); (try have y02p : w.heap.size + 1 + 1 < w0.heap.size + 1 := (by omega)))
    | (go_at_call 29; refine (c1 _).mono ?_; rintro e w1 ⟨rfl, hb1⟩; obtain ⟨hc1, hf1⟩ := bcell hb1; have hz1 := hb1.size; (try simp at hz1); (try have y10 : w.heap.size < w1.heap.size := (by omega)); (try have y10p : w.heap.size < w1.heap.size + 1 := (by omega)); (try have y11 : w.heap.size + 1 < w1.heap.size := (by omega)); (try have y11p : w.heap.size + 1 < w1.heap.size + 1 := (by omega)); (try have y12 : w.heap.size + 1 + 1 < w1.heap.size := (by omega)); (try have y12p : w.heap.size + 1 + 1 < w1.heap.size + 1 := (by omega)); (try have v0x1 : w0.heap.size < w1.heap.size := (by omega)); (try have v0x1p : w0.heap.size < w1.heap.size + 1 := (by omega)))
    | (go_at_call 30; refine (c2 _).mono ?_; rintro e w2 ⟨rfl, hb2⟩; obtain ⟨hc2, hf2⟩ := bcell hb2; have hz2 := hb2.size; (try simp at hz2); (try have y20 : w.heap.size < w2.heap.size := (by omega)); (try have y20p : w.heap.size < w2.heap.size + 1 := (by omega)); (try have y21 : w.heap.size + 1 < w2.heap.size := (by omega)); (try have y21p : w.heap.size + 1 < w2.heap.size + 1 := (by omega)); (try have y22 : w.heap.size + 1 + 1 < w2.heap.size := (by omega)); (try have y22p : w.heap.size + 1 + 1 < w2.heap.size + 1 := (by omega)); (try have v0x2 : w0.heap.size < w2.heap.size := (by omega)); (try have v0x2p : w0.heap.size < w2.heap.size + 1 := (by omega)); (try have v1x2 : w1.heap.size < w2.heap.size := (by omega)); (try have v1x2p : w1.heap.size < w2.heap.size + 1 := (by omega)))
    | (revert hb4; intro hb4; go_at_call 31; refine (i3 _).mono ?_; rintro e w5 ⟨rfl, hb5⟩; obtain ⟨hc5, hf5⟩ := bcell hb5; have hz5 := hb5.size; (try simp at hz5); (try have y50 : w.heap.size < w5.heap.size := (by omega)); (try have y50p : w.heap.size < w5.heap.size + 1 := (by omega)); (try have y51 : w.heap.size + 1 < w5.heap.size := (by omega)); (try have y51p : w.heap.size + 1 < w5.heap.size + 1 := (by omega)); (try have y52 : w.heap.size + 1 + 1 < w5.heap.size := (by omega)); (try have y52p : w.heap.size + 1 + 1 < w5.heap.size + 1 := (by omega)); (try have v0x5 : w0.heap.size < w5.heap.size := (by omega)); (try have v0x5p : w0.heap.size < w5.heap.size + 1 := (by omega)); (try have v1x5 : w1.heap.size < w5.heap.size := (by omega)); (try have v1x5p : w1.heap.size < w5.heap.size + 1 := (by omega)); (try have v2x5 : w2.heap.size < w5.heap.size := (by omega)); (try have v2x5p : w2.heap.size < w5.heap.size + 1 := (by omega)); (try have v3x5 : w3.heap.size < w5.heap.size := (by omega)); (try have v3x5p : w3.heap.size < w5.heap.size + 1 := (by omega)); (try have v4x5 : w4.heap.size < w5.heap.size := (by omega)); (try have v4x5p : w4.heap.size < w5.heap.size + 1 := (by omega)))
    | (revert hb3; intro hb3; go_at_call 31; refine (i2 _).mono ?_; rintro e w4 ⟨rfl, hb4⟩; obtain ⟨hc4, hf4⟩ := bcell hb4; have hz4 := hb4.size; (try simp at hz4); (try have y40 : w.heap.size < w4.heap.size := (by omega)); (try have y40p : w.heap.size < w4.heap.size + 1 := (by omega)); (try have y41 : w.heap.size + 1 < w4.heap.size := (by omega)); (try have y41p : w.heap.size + 1 < w4.heap.size + 1 := (by omega)); (try have y42 : w.heap.size + 1 + 1 < w4.heap.size := (by omega)); (try have y42p : w.heap.size + 1 + 1 < w4.heap.size + 1 := (by omega)); (try have v0x4 : w0.heap.size < w4.heap.size := (by omega)); (try have v0x4p : w0.heap.size < w4.heap.size + 1 := (by omega)); (try have v1x4 : w1.heap.size < w4.heap.size := (by omega)); (try have v1x4p : w1.heap.size < w4.heap.size + 1 := (by omega)); (try have v2x4 : w2.heap.size < w4.heap.size := (by omega)); (try have v2x4p : w2.heap.size < w4.heap.size + 1 := (by omega)); (try have v3x4 : w3.heap.size < w4.heap.size := (by omega)); (try have v3x4p : w3.heap.size < w4.heap.size + 1 := (by omega)))
    | (go_at_call 31; refine (i1 _).mono ?_; rintro e w3 ⟨rfl, hb3⟩; obtain ⟨hc3, hf3⟩ := bcell hb3; have hz3 := hb3.size; (try simp at hz3); (try have y30 : w.heap.size < w3.heap.size := (by omega)); (try have y30p : w.heap.size < w3.heap.size + 1 := (by omega)); (try have y31 : w.heap.size + 1 < w3.heap.size := (by omega)); (try have y31p : w.heap.size + 1 < w3.heap.size + 1 := (by omega)); (try have y32 : w.heap.size + 1 + 1 < w3.heap.size := (by omega)); (try have y32p : w.heap.size + 1 + 1 < w3.heap.size + 1 := (by omega)); (try have v0x3 : w0.heap.size < w3.heap.size := (by omega)); (try have v0x3p : w0.heap.size < w3.heap.size + 1 := (by omega)); (try have v1x3 : w1.heap.size < w3.heap.size := (by omega)); (try have v1x3p : w1.heap.size < w3.heap.size + 1 := (by omega)); (try have v2x3 : w2.heap.size < w3.heap.size := (by omega)); (try have v2x3p : w2.heap.size < w3.heap.size + 1 := (by omega)))
    | (go_at_call 32; refine (c3 _).mono ?_; rintro e w6 ⟨rfl, hb6⟩; obtain ⟨hc6, hf6⟩ := bcell hb6; have hz6 := hb6.size; (try simp at hz6); (try have y60 : w.heap.size < w6.heap.size := (by omega)); (try have y60p : w.heap.size < w6.heap.size + 1 := (by omega)); (try have y61 : w.heap.size + 1 < w6.heap.size := (by omega)); (try have y61p : w.heap.size + 1 < w6.heap.size + 1 := (by omega)); (try have y62 : w.heap.size + 1 + 1 < w6.heap.size := (by omega)); (try have y62p : w.heap.size + 1 + 1 < w6.heap.size + 1 := (by omega)); (try have v0x6 : w0.heap.size < w6.heap.size := (by omega)); (try have v0x6p : w0.heap.size < w6.heap.size + 1 := (by omega)); (try have v1x6 : w1.heap.size < w6.heap.size := (by omega)); (try have v1x6p : w1.heap.size < w6.heap.size + 1 := (by omega)); (try have v2x6 : w2.heap.size < w6.heap.size := (by omega)); (try have v2x6p : w2.heap.size < w6.heap.size + 1 := (by omega)); (try have v3x6 : w3.heap.size < w6.heap.size := (by omega)); (try have v3x6p : w3.heap.size < w6.heap.size + 1 := (by omega)); (try have v4x6 : w4.heap.size < w6.heap.size := (by omega)); (try have v4x6p : w4.heap.size < w6.heap.size + 1 := (by omega)); (try have v5x6 : w5.heap.size < w6.heap.size := (by omega)); (try have v5x6p : w5.heap.size < w6.heap.size + 1 := (by omega)))
    | (go_at_call 33; refine (c4 _).mono ?_; rintro e w7 ⟨rfl, hb7⟩; obtain ⟨hc7, hf7⟩ := bcell hb7; have hz7 := hb7.size; (try simp at hz7); (try have y70 : w.heap.size < w7.heap.size := (by omega)); (try have y70p : w.heap.size < w7.heap.size + 1 := (by omega)); (try have y71 : w.heap.size + 1 < w7.heap.size := (by omega)); (try have y71p : w.heap.size + 1 < w7.heap.size + 1 := (by omega)); (try have y72 : w.heap.size + 1 + 1 < w7.heap.size := (by omega)); (try have y72p : w.heap.size + 1 + 1 < w7.heap.size + 1 := (by omega)); (try have v0x7 : w0.heap.size < w7.heap.size := (by omega)); (try have v0x7p : w0.heap.size < w7.heap.size + 1 := (by omega)); (try have v1x7 : w1.heap.size < w7.heap.size := (by omega)); (try have v1x7p : w1.heap.size < w7.heap.size + 1 := (by omega)); (try have v2x7 : w2.heap.size < w7.heap.size := (by omega)); (try have v2x7p : w2.heap.size < w7.heap.size + 1 := (by omega)); (try have v3x7 : w3.heap.size < w7.heap.size := (by omega)); (try have v3x7p : w3.heap.size < w7.heap.size + 1 := (by omega)); (try have v4x7 : w4.heap.size < w7.heap.size := (by omega)); (try have v4x7p : w4.heap.size < w7.heap.size + 1 := (by omega)); (try have v5x7 : w5.heap.size < w7.heap.size := (by omega)); (try have v5x7p : w5.heap.size < w7.heap.size + 1 := (by omega)); (try have v6x7 : w6.heap.size < w7.heap.size := (by omega)); (try have v6x7p : w6.heap.size < w7.heap.size + 1 := (by omega))))
  all_goals
    go_ret
    refine ⟨ret_bool (by simp), ?_⟩
    repeat (first | exact Below.refl _ _ | refine Below.drew ?_ | refine below_drewN ?_ _ | refine Below.setCell ?_ ?_ _ | refine Below.alloc ?_ ?_ _ | (refine Below.trans ?_ (bmono (by assumption) ?_)))
    all_goals (first | omega | (simp <;> omega))
set_option maxHeartbeats 4000000 in
theorem turns_bad (ax ay bx b_y cx cy : Int) (h : ((inC ax && inC ay) && ((inC bx && inC b_y) && (inC cx && inC cy))) = false) (w : World) :
    Calls Try.prog 6 #[.agg #[.int .i64 ax, .int .i64 ay], .agg #[.int .i64 bx, .int .i64 b_y], .agg #[.int .i64 cx, .int .i64 cy]] w fun e w' => e = .returned (.bool true) ∧ Below w.heap.size w w' := by
  have he : errP [(ax, ay), (bx, b_y), (cx, cy)] = 6 := by rw [errP3, h]; rfl
  have c1 := Turn_bad ax ay bx b_y cx cy he
  have c2 := On_bad ax ay bx b_y cx cy he
  have i1 := inPoint_any ax ay
  have i2 := inPoint_any bx b_y
  have i3 := inPoint_any cx cy
  clear he
  generalize (inC ax && inC ay) = p at h i1
  generalize (inC bx && inC b_y) = q at h i2
  generalize (inC cx && inC cy) = r at h i3
  have hh : p = false ∨ (p = true ∧ q = false) ∨ (p = true ∧ q = true ∧ r = false) := by cases p <;> cases q <;> cases r <;> simp_all
  clear h
  rcases hh with rfl | ⟨rfl, rfl⟩ | ⟨rfl, rfl, rfl⟩
  all_goals
    go_enter Try.func6, Try.ntmps6
    go_wp2_with (first
      | (go_at_call 12; refine (awake_any _).mono ?_; rintro e w0 ⟨rfl, hb0⟩; obtain ⟨hc0, hf0⟩ := bcell hb0; have hz0 := hb0.size; (try simp at hz0); (try have y00 : w.heap.size < w0.heap.size := (by omega)); (try have y00p : w.heap.size < w0.heap.size + 1 := (by omega)); (try have y01 : w.heap.size + 1 < w0.heap.size := (by omega)); (try have y01p : w.heap.size + 1 < w0.heap.size + 1 := (by omega)); (try have y02 : w.heap.size + 1 + 1 < w0.heap.size := (by omega)); (try have y02p : w.heap.size + 1 + 1 < w0.heap.size + 1 := (by omega)))
      | (go_at_call 29; refine (c1 _).mono ?_; rintro e w1 ⟨rfl, hb1⟩; obtain ⟨hc1, hf1⟩ := bcell hb1; have hz1 := hb1.size; (try simp at hz1); (try have y10 : w.heap.size < w1.heap.size := (by omega)); (try have y10p : w.heap.size < w1.heap.size + 1 := (by omega)); (try have y11 : w.heap.size + 1 < w1.heap.size := (by omega)); (try have y11p : w.heap.size + 1 < w1.heap.size + 1 := (by omega)); (try have y12 : w.heap.size + 1 + 1 < w1.heap.size := (by omega)); (try have y12p : w.heap.size + 1 + 1 < w1.heap.size + 1 := (by omega)); (try have v0x1 : w0.heap.size < w1.heap.size := (by omega)); (try have v0x1p : w0.heap.size < w1.heap.size + 1 := (by omega)))
      | (go_at_call 30; refine (c2 _).mono ?_; rintro e w2 ⟨rfl, hb2⟩; obtain ⟨hc2, hf2⟩ := bcell hb2; have hz2 := hb2.size; (try simp at hz2); (try have y20 : w.heap.size < w2.heap.size := (by omega)); (try have y20p : w.heap.size < w2.heap.size + 1 := (by omega)); (try have y21 : w.heap.size + 1 < w2.heap.size := (by omega)); (try have y21p : w.heap.size + 1 < w2.heap.size + 1 := (by omega)); (try have y22 : w.heap.size + 1 + 1 < w2.heap.size := (by omega)); (try have y22p : w.heap.size + 1 + 1 < w2.heap.size + 1 := (by omega)); (try have v0x2 : w0.heap.size < w2.heap.size := (by omega)); (try have v0x2p : w0.heap.size < w2.heap.size + 1 := (by omega)); (try have v1x2 : w1.heap.size < w2.heap.size := (by omega)); (try have v1x2p : w1.heap.size < w2.heap.size + 1 := (by omega)))
      | (revert hb4; intro hb4; go_at_call 31; refine (i3 _).mono ?_; rintro e w5 ⟨rfl, hb5⟩; obtain ⟨hc5, hf5⟩ := bcell hb5; have hz5 := hb5.size; (try simp at hz5); (try have y50 : w.heap.size < w5.heap.size := (by omega)); (try have y50p : w.heap.size < w5.heap.size + 1 := (by omega)); (try have y51 : w.heap.size + 1 < w5.heap.size := (by omega)); (try have y51p : w.heap.size + 1 < w5.heap.size + 1 := (by omega)); (try have y52 : w.heap.size + 1 + 1 < w5.heap.size := (by omega)); (try have y52p : w.heap.size + 1 + 1 < w5.heap.size + 1 := (by omega)); (try have v0x5 : w0.heap.size < w5.heap.size := (by omega)); (try have v0x5p : w0.heap.size < w5.heap.size + 1 := (by omega)); (try have v1x5 : w1.heap.size < w5.heap.size := (by omega)); (try have v1x5p : w1.heap.size < w5.heap.size + 1 := (by omega)); (try have v2x5 : w2.heap.size < w5.heap.size := (by omega)); (try have v2x5p : w2.heap.size < w5.heap.size + 1 := (by omega)); (try have v3x5 : w3.heap.size < w5.heap.size := (by omega)); (try have v3x5p : w3.heap.size < w5.heap.size + 1 := (by omega)); (try have v4x5 : w4.heap.size < w5.heap.size := (by omega)); (try have v4x5p : w4.heap.size < w5.heap.size + 1 := (by omega)))
      | (revert hb3; intro hb3; go_at_call 31; refine (i2 _).mono ?_; rintro e w4 ⟨rfl, hb4⟩; obtain ⟨hc4, hf4⟩ := bcell hb4; have hz4 := hb4.size; (try simp at hz4); (try have y40 : w.heap.size < w4.heap.size := (by omega)); (try have y40p : w.heap.size < w4.heap.size + 1 := (by omega)); (try have y41 : w.heap.size + 1 < w4.heap.size := (by omega)); (try have y41p : w.heap.size + 1 < w4.heap.size + 1 := (by omega)); (try have y42 : w.heap.size + 1 + 1 < w4.heap.size := (by omega)); (try have y42p : w.heap.size + 1 + 1 < w4.heap.size + 1 := (by omega)); (try have v0x4 : w0.heap.size < w4.heap.size := (by omega)); (try have v0x4p : w0.heap.size < w4.heap.size + 1 := (by omega)); (try have v1x4 : w1.heap.size < w4.heap.size := (by omega)); (try have v1x4p : w1.heap.size < w4.heap.size + 1 := (by omega)); (try have v2x4 : w2.heap.size < w4.heap.size := (by omega)); (try have v2x4p : w2.heap.size < w4.heap.size + 1 := (by omega)); (try have v3x4 : w3.heap.size < w4.heap.size := (by omega)); (try have v3x4p : w3.heap.size < w4.heap.size + 1 := (by omega)))
      | (go_at_call 31; refine (i1 _).mono ?_; rintro e w3 ⟨rfl, hb3⟩; obtain ⟨hc3, hf3⟩ := bcell hb3; have hz3 := hb3.size; (try simp at hz3); (try have y30 : w.heap.size < w3.heap.size := (by omega)); (try have y30p : w.heap.size < w3.heap.size + 1 := (by omega)); (try have y31 : w.heap.size + 1 < w3.heap.size := (by omega)); (try have y31p : w.heap.size + 1 < w3.heap.size + 1 := (by omega)); (try have y32 : w.heap.size + 1 + 1 < w3.heap.size := (by omega)); (try have y32p : w.heap.size + 1 + 1 < w3.heap.size + 1 := (by omega)); (try have v0x3 : w0.heap.size < w3.heap.size := (by omega)); (try have v0x3p : w0.heap.size < w3.heap.size + 1 := (by omega)); (try have v1x3 : w1.heap.size < w3.heap.size := (by omega)); (try have v1x3p : w1.heap.size < w3.heap.size + 1 := (by omega)); (try have v2x3 : w2.heap.size < w3.heap.size := (by omega)); (try have v2x3p : w2.heap.size < w3.heap.size + 1 := (by omega))))
    go_ret
    refine ⟨rfl, ?_⟩
    repeat (first | exact Below.refl _ _ | refine Below.drew ?_ | refine below_drewN ?_ _ | refine Below.setCell ?_ ?_ _ | refine Below.alloc ?_ ?_ _ | (refine Below.trans ?_ (bmono (by assumption) ?_)))
    all_goals (first | omega | (simp <;> omega))
theorem vectorTurns_any (ax ay bx b_y cx cy : Int) (w : World) :
    Calls Try.prog 6 #[.agg #[.int .i64 ax, .int .i64 ay], .agg #[.int .i64 bx, .int .i64 b_y], .agg #[.int .i64 cx, .int .i64 cy]] w fun e w' => e = .returned (.bool true) ∧ Below w.heap.size w w' := by
  cases h : ((inC ax && inC ay) && ((inC bx && inC b_y) && (inC cx && inC cy)))
  · exact turns_bad _ _ _ _ _ _ h w
  · refine turns_ok _ _ _ _ _ _ ?_ w
    simp only [Bool.and_eq_true] at h
    exact h

set_option maxHeartbeats 800000 in
set_option maxRecDepth 100000 in
theorem vectorTurns_lifted (os : Os) (started : os.Started) (H : Type) (enc : TypeId × Value → H) :
    ReturnsInHanded {} Try.checked os 6 .any (Rows.vectorTurnsSpec.pre6 enc Try.prog Try.f6 Rows.vectorTurnsRow.domain false) (Rows.vectorTurnsSpec.post enc Try.prog Try.f6 false true false false) := by
  refine returnsInHanded_of_change (C := Try.checked) Try.own started (by kernel_rfl) Try.func6
    (ChangeSpec.witness6 (enc := enc) (C := Try.checked) false ⟨#[], #[.agg #[.int .i64 0, .int .i64 0], .agg #[.int .i64 0, .int .i64 0], .agg #[.int .i64 0, .int .i64 0]], []⟩ 8 (by kernel_rfl) (by kernel_rfl) (by kernel_rfl) (by kernel_rfl)) ?_
  intro W base args ds gs before hval0 hW _ _
  have hval : ∀ (j : Nat) t v, Try.f6.params[j]? = some t → args[j]? = some v → Value.okWide Try.prog W .any base t v := hval0
  have hW' := hW
  obtain ⟨p, q, hA0, hV, rfl, _, _⟩ := hW
  have hA : DataW.TrodAll enc Try.prog W 0 (fun _ => true) true Try.f6.params.toList args.toList ds p := hA0
  rw [Try.params6] at hA hval
  obtain ⟨v0, v1, v2, d0, d1, d2, p0, p1, p2, rfl, rfl, rfl, h0, h1, h2⟩ := trodAll_three hA
  obtain ⟨rfl, rfl⟩ := trodVars_none hV
  clear hA0 hval0
  simp only [List.append_nil] at hW'
  have harg0 : ∀ W' : World, Below W.heap.size W W' → DataW.Trod enc Try.prog W' 0 (fun b => decide (b < W.heap.size)) true 46 v0 d0 p0 :=
    fun W' hn => Below.trod Try.laidOut (by kernel_rfl) (of_decide_eq_true (by kernel_rfl)) h0 hn (fun y hy => by simpa using hW'.lt y (by simp [hy]))
  have harg1 : ∀ W' : World, Below W.heap.size W W' → DataW.Trod enc Try.prog W' 0 (fun b => decide (b < W.heap.size)) true 46 v1 d1 p1 :=
    fun W' hn => Below.trod Try.laidOut (by kernel_rfl) (of_decide_eq_true (by kernel_rfl)) h1 hn (fun y hy => by simpa using hW'.lt y (by simp [hy]))
  have harg2 : ∀ W' : World, Below W.heap.size W W' → DataW.Trod enc Try.prog W' 0 (fun b => decide (b < W.heap.size)) true 46 v2 d2 p2 :=
    fun W' hn => Below.trod Try.laidOut (by kernel_rfl) (of_decide_eq_true (by kernel_rfl)) h2 hn (fun y hy => by simpa using hW'.lt y (by simp [hy]))
  obtain ⟨ax, ay, rfl⟩ := open_pt (hval 0 46 v0 rfl rfl) h0
  obtain ⟨bx, b_y, rfl⟩ := open_pt (hval 1 46 v1 rfl rfl) h1
  obtain ⟨cx, cy, rfl⟩ := open_pt (hval 2 46 v2 rfl rfl) h2
  refine (vectorTurns_any ax ay bx b_y cx cy W).mono fun e W' ⟨he, hn⟩ => ?_
  subst he
  exact ⟨_, rfl, _, _, _, [], _, [], hW', trodAll_mk1 (shut_bool Try.underlying4 _), trodAll_mk3 (harg0 _ hn) (harg1 _ hn) (harg2 _ hn), (List.append_nil _).symm, hn.frame _, fun h => by cases h⟩

theorem vectorTurns_holds : Rows.VectorTurnsSaid :=
  OpenClaim.holds_of_wide 6 Try.f6 rfl rfl rfl rfl rfl rfl rfl ⟨rfl, rfl, rfl, rfl, rfl⟩ rfl rfl rfl rfl rfl (by kernel_rfl) Try.func6 (by kernel_rfl)
    (of_decide_eq_true (by kernel_rfl)) (by unfold Func.isWrapper; first | (rw [if_pos (by decide +kernel)]; kernel_rfl) | (rw [if_neg (by decide +kernel)]; exact ⟨rfl, rfl⟩))
    (fun os started H enc _ => vectorTurns_lifted os started H enc)
end Go.Proofs.Ythlidkmalfjmbaa
