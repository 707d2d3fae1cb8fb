/- The walks of Turn, On and Meet. No condition. -/
import Derived.Test.YthlidkmalfjmbaaMeet
namespace Go.Proofs.Ythlidkmalfjmbaa
open Go.RowKit

theorem errP_or (l : List (Int × Int)) : errP l = 0 ∨ errP l = 6 := by unfold errP; split <;> simp

set_option maxHeartbeats 2000000 in
theorem Turn_ok (ax ay bx b_y cx cy : Int) (h : errP [(ax, ay), (bx, b_y), (cx, cy)] = 0) (w : World) :
    Calls Try.prog 29 #[.agg #[.int .i64 ax, .int .i64 ay], .agg #[.int .i64 bx, .int .i64 b_y], .agg #[.int .i64 cx, .int .i64 cy]] w fun e w' => e = .returned (.tuple #[.int .i64 (cmpI (lft ax ay bx cy) (rgt ax ay b_y cx)), .int .i64 0]) ∧ Below w.heap.size w w' := by
  have hck := fun A cap W (h : Reads W W.heap.size 2 A [(ax, ay), (bx, b_y), (cx, cy)].length (encPs [(ax, ay), (bx, b_y), (cx, cy)])) => checkPoints_any A cap [(ax, ay), (bx, b_y), (cx, cy)] W (by simp) h
  rw [h] at hck
  have hm := turn_any ax ay bx b_y cx cy
  clear h
  generalize cmpI (lft ax ay bx cy) (rgt ax ay b_y cx) = R at hm ⊢
  go_enter Try.func29, Try.ntmps29
  go_wp2_with (first
    | (go_at_call 48; refine (hck _ _ _ (readsP_new (by simp) rfl)).mono ?_; rintro e w1 ⟨rfl, hb1⟩; obtain ⟨hc1, hf1⟩ := bcell hb1; have hz1 := hb1.size; (try simp at hz1); (try have y10 : w.heap.size < w1.heap.size := (by omega)); (try have y11 : w.heap.size + 1 < w1.heap.size := (by omega)); (try have y12 : w.heap.size + 1 + 1 < w1.heap.size := (by omega)); (try have y13 : w.heap.size + 1 + 1 + 1 < w1.heap.size := (by omega)); (try have y14 : w.heap.size + 1 + 1 + 1 + 1 < w1.heap.size := (by omega)))
    | (go_at_call 49; refine (hm _).mono ?_; rintro e w2 ⟨rfl, hb2⟩; obtain ⟨hc2, hf2⟩ := bcell hb2; have hz2 := hb2.size; (try simp at hz2); (try have y20 : w.heap.size < w2.heap.size := (by omega)); (try have y21 : w.heap.size + 1 < w2.heap.size := (by omega)); (try have y22 : w.heap.size + 1 + 1 < w2.heap.size := (by omega)); (try have y23 : w.heap.size + 1 + 1 + 1 < w2.heap.size := (by omega)); (try have y24 : w.heap.size + 1 + 1 + 1 + 1 < w2.heap.size := (by omega))))
  go_ret2
  refine ⟨rfl, ?_⟩
  repeat (first | exact Below.refl _ _ | refine Below.drew ?_ | refine below_drewN ?_ _ | refine Below.setCell ?_ ?_ _ | refine Below.alloc ?_ ?_ _ | (refine Below.trans ?_ (bmono (by assumption) ?_)))
  all_goals (first | omega | (simp <;> omega))
set_option maxHeartbeats 2000000 in
theorem Turn_bad (ax ay bx b_y cx cy : Int) (h : errP [(ax, ay), (bx, b_y), (cx, cy)] = 6) (w : World) :
    Calls Try.prog 29 #[.agg #[.int .i64 ax, .int .i64 ay], .agg #[.int .i64 bx, .int .i64 b_y], .agg #[.int .i64 cx, .int .i64 cy]] w fun e w' => e = .returned (.tuple #[.int .i64 0, .int .i64 6]) ∧ Below w.heap.size w w' := by
  have hck := fun A cap W (h : Reads W W.heap.size 2 A [(ax, ay), (bx, b_y), (cx, cy)].length (encPs [(ax, ay), (bx, b_y), (cx, cy)])) => checkPoints_any A cap [(ax, ay), (bx, b_y), (cx, cy)] W (by simp) h
  rw [h] at hck
  clear h
  go_enter Try.func29, Try.ntmps29
  go_wp2_with (go_at_call 48; refine (hck _ _ _ (readsP_new (by simp) rfl)).mono ?_; rintro e w1 ⟨rfl, hb1⟩; obtain ⟨hc1, hf1⟩ := bcell hb1; have hz1 := hb1.size; (try simp at hz1); (try have y10 : w.heap.size < w1.heap.size := (by omega)); (try have y11 : w.heap.size + 1 < w1.heap.size := (by omega)); (try have y12 : w.heap.size + 1 + 1 < w1.heap.size := (by omega)); (try have y13 : w.heap.size + 1 + 1 + 1 < w1.heap.size := (by omega)); (try have y14 : w.heap.size + 1 + 1 + 1 + 1 < w1.heap.size := (by omega)))
  go_ret2
  refine ⟨rfl, ?_⟩
  repeat (first | exact Below.refl _ _ | refine Below.drew ?_ | refine below_drewN ?_ _ | refine Below.setCell ?_ ?_ _ | refine Below.alloc ?_ ?_ _ | (refine Below.trans ?_ (bmono (by assumption) ?_)))
  all_goals (first | omega | (simp <;> omega))

set_option maxHeartbeats 2000000 in
theorem On_ok (ax ay bx b_y cx cy : Int) (h : errP [(ax, ay), (bx, b_y), (cx, cy)] = 0) (w : World) :
    Calls Try.prog 30 #[.agg #[.int .i64 ax, .int .i64 ay], .agg #[.int .i64 bx, .int .i64 b_y], .agg #[.int .i64 cx, .int .i64 cy]] w fun e w' => e = .returned (.tuple #[.bool (decide (meetS ax ay bx b_y cx cy cx cy > 0)), .int .i64 0]) ∧ Below w.heap.size w w' := by
  have hck := fun A cap W (h : Reads W W.heap.size 2 A [(ax, ay), (bx, b_y), (cx, cy)].length (encPs [(ax, ay), (bx, b_y), (cx, cy)])) => checkPoints_any A cap [(ax, ay), (bx, b_y), (cx, cy)] W (by simp) h
  rw [h] at hck
  have hm := meet_any ax ay bx b_y cx cy cx cy
  clear h
  generalize meetS ax ay bx b_y cx cy cx cy = R at hm ⊢
  go_enter Try.func30, Try.ntmps30
  go_wp2_with (first
    | (go_at_call 48; refine (hck _ _ _ (readsP_new (by simp) rfl)).mono ?_; rintro e w1 ⟨rfl, hb1⟩; obtain ⟨hc1, hf1⟩ := bcell hb1; have hz1 := hb1.size; (try simp at hz1); (try have y10 : w.heap.size < w1.heap.size := (by omega)); (try have y11 : w.heap.size + 1 < w1.heap.size := (by omega)); (try have y12 : w.heap.size + 1 + 1 < w1.heap.size := (by omega)); (try have y13 : w.heap.size + 1 + 1 + 1 < w1.heap.size := (by omega)); (try have y14 : w.heap.size + 1 + 1 + 1 + 1 < w1.heap.size := (by omega)))
    | (go_at_call 50; refine (hm _).mono ?_; rintro e w2 ⟨rfl, hb2⟩; obtain ⟨hc2, hf2⟩ := bcell hb2; have hz2 := hb2.size; (try simp at hz2); (try have y20 : w.heap.size < w2.heap.size := (by omega)); (try have y21 : w.heap.size + 1 < w2.heap.size := (by omega)); (try have y22 : w.heap.size + 1 + 1 < w2.heap.size := (by omega)); (try have y23 : w.heap.size + 1 + 1 + 1 < w2.heap.size := (by omega)); (try have y24 : w.heap.size + 1 + 1 + 1 + 1 < w2.heap.size := (by omega))))
  go_ret2
  refine ⟨rfl, ?_⟩
  repeat (first | exact Below.refl _ _ | refine Below.drew ?_ | refine below_drewN ?_ _ | refine Below.setCell ?_ ?_ _ | refine Below.alloc ?_ ?_ _ | (refine Below.trans ?_ (bmono (by assumption) ?_)))
  all_goals (first | omega | (simp <;> omega))
set_option maxHeartbeats 2000000 in
theorem On_bad (ax ay bx b_y cx cy : Int) (h : errP [(ax, ay), (bx, b_y), (cx, cy)] = 6) (w : World) :
    Calls Try.prog 30 #[.agg #[.int .i64 ax, .int .i64 ay], .agg #[.int .i64 bx, .int .i64 b_y], .agg #[.int .i64 cx, .int .i64 cy]] w fun e w' => e = .returned (.tuple #[.bool false, .int .i64 6]) ∧ Below w.heap.size w w' := by
  have hck := fun A cap W (h : Reads W W.heap.size 2 A [(ax, ay), (bx, b_y), (cx, cy)].length (encPs [(ax, ay), (bx, b_y), (cx, cy)])) => checkPoints_any A cap [(ax, ay), (bx, b_y), (cx, cy)] W (by simp) h
  rw [h] at hck
  clear h
  go_enter Try.func30, Try.ntmps30
  go_wp2_with (go_at_call 48; refine (hck _ _ _ (readsP_new (by simp) rfl)).mono ?_; rintro e w1 ⟨rfl, hb1⟩; obtain ⟨hc1, hf1⟩ := bcell hb1; have hz1 := hb1.size; (try simp at hz1); (try have y10 : w.heap.size < w1.heap.size := (by omega)); (try have y11 : w.heap.size + 1 < w1.heap.size := (by omega)); (try have y12 : w.heap.size + 1 + 1 < w1.heap.size := (by omega)); (try have y13 : w.heap.size + 1 + 1 + 1 < w1.heap.size := (by omega)); (try have y14 : w.heap.size + 1 + 1 + 1 + 1 < w1.heap.size := (by omega)))
  go_ret2
  refine ⟨rfl, ?_⟩
  repeat (first | exact Below.refl _ _ | refine Below.drew ?_ | refine below_drewN ?_ _ | refine Below.setCell ?_ ?_ _ | refine Below.alloc ?_ ?_ _ | (refine Below.trans ?_ (bmono (by assumption) ?_)))
  all_goals (first | omega | (simp <;> omega))

set_option maxHeartbeats 2000000 in
theorem Meet_ok (ax ay bx b_y cx cy dx dy : Int) (h : errP [(ax, ay), (bx, b_y), (cx, cy), (dx, dy)] = 0) (w : World) :
    Calls Try.prog 34 #[.agg #[.int .i64 ax, .int .i64 ay], .agg #[.int .i64 bx, .int .i64 b_y], .agg #[.int .i64 cx, .int .i64 cy], .agg #[.int .i64 dx, .int .i64 dy]] w fun e w' => e = .returned (.tuple #[.int .i64 (meetS ax ay bx b_y cx cy dx dy), .int .i64 0]) ∧ Below w.heap.size w w' := by
  have hck := fun A cap W (h : Reads W W.heap.size 2 A [(ax, ay), (bx, b_y), (cx, cy), (dx, dy)].length (encPs [(ax, ay), (bx, b_y), (cx, cy), (dx, dy)])) => checkPoints_any A cap [(ax, ay), (bx, b_y), (cx, cy), (dx, dy)] W (by simp) h
  rw [h] at hck
  have hm := meet_any ax ay bx b_y cx cy dx dy
  clear h
  generalize meetS ax ay bx b_y cx cy dx dy = R at hm ⊢
  go_enter Try.func34, Try.ntmps34
  go_wp2_with (first
    | (go_at_call 48; refine (hck _ _ _ (readsP_new (by simp) rfl)).mono ?_; rintro e w1 ⟨rfl, hb1⟩; obtain ⟨hc1, hf1⟩ := bcell hb1; have hz1 := hb1.size; (try simp at hz1); (try have y10 : w.heap.size < w1.heap.size := (by omega)); (try have y11 : w.heap.size + 1 < w1.heap.size := (by omega)); (try have y12 : w.heap.size + 1 + 1 < w1.heap.size := (by omega)); (try have y13 : w.heap.size + 1 + 1 + 1 < w1.heap.size := (by omega)); (try have y14 : w.heap.size + 1 + 1 + 1 + 1 < w1.heap.size := (by omega)))
    | (go_at_call 50; refine (hm _).mono ?_; rintro e w2 ⟨rfl, hb2⟩; obtain ⟨hc2, hf2⟩ := bcell hb2; have hz2 := hb2.size; (try simp at hz2); (try have y20 : w.heap.size < w2.heap.size := (by omega)); (try have y21 : w.heap.size + 1 < w2.heap.size := (by omega)); (try have y22 : w.heap.size + 1 + 1 < w2.heap.size := (by omega)); (try have y23 : w.heap.size + 1 + 1 + 1 < w2.heap.size := (by omega)); (try have y24 : w.heap.size + 1 + 1 + 1 + 1 < w2.heap.size := (by omega))))
  go_ret2
  refine ⟨rfl, ?_⟩
  repeat (first | exact Below.refl _ _ | refine Below.drew ?_ | refine below_drewN ?_ _ | refine Below.setCell ?_ ?_ _ | refine Below.alloc ?_ ?_ _ | (refine Below.trans ?_ (bmono (by assumption) ?_)))
  all_goals (first | omega | (simp <;> omega))
set_option maxHeartbeats 2000000 in
theorem Meet_bad (ax ay bx b_y cx cy dx dy : Int) (h : errP [(ax, ay), (bx, b_y), (cx, cy), (dx, dy)] = 6) (w : World) :
    Calls Try.prog 34 #[.agg #[.int .i64 ax, .int .i64 ay], .agg #[.int .i64 bx, .int .i64 b_y], .agg #[.int .i64 cx, .int .i64 cy], .agg #[.int .i64 dx, .int .i64 dy]] w fun e w' => e = .returned (.tuple #[.int .i64 0, .int .i64 6]) ∧ Below w.heap.size w w' := by
  have hck := fun A cap W (h : Reads W W.heap.size 2 A [(ax, ay), (bx, b_y), (cx, cy), (dx, dy)].length (encPs [(ax, ay), (bx, b_y), (cx, cy), (dx, dy)])) => checkPoints_any A cap [(ax, ay), (bx, b_y), (cx, cy), (dx, dy)] W (by simp) h
  rw [h] at hck
  clear h
  go_enter Try.func34, Try.ntmps34
  go_wp2_with (go_at_call 48; refine (hck _ _ _ (readsP_new (by simp) rfl)).mono ?_; rintro e w1 ⟨rfl, hb1⟩; obtain ⟨hc1, hf1⟩ := bcell hb1; have hz1 := hb1.size; (try simp at hz1); (try have y10 : w.heap.size < w1.heap.size := (by omega)); (try have y11 : w.heap.size + 1 < w1.heap.size := (by omega)); (try have y12 : w.heap.size + 1 + 1 < w1.heap.size := (by omega)); (try have y13 : w.heap.size + 1 + 1 + 1 < w1.heap.size := (by omega)); (try have y14 : w.heap.size + 1 + 1 + 1 + 1 < w1.heap.size := (by omega)))
  go_ret2
  refine ⟨rfl, ?_⟩
  repeat (first | exact Below.refl _ _ | refine Below.drew ?_ | refine below_drewN ?_ _ | refine Below.setCell ?_ ?_ _ | refine Below.alloc ?_ ?_ _ | (refine Below.trans ?_ (bmono (by assumption) ?_)))
  all_goals (first | omega | (simp <;> omega))
end Go.Proofs.Ythlidkmalfjmbaa
