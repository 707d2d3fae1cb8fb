/- The walk of the reference's Meet where one segment is a point. The points are in range. -/
import Derived.Test.YthlidkmalfjmbaaRmm
namespace Go.Proofs.Ythlidkmalfjmbaa
open Go.RowKit

set_option maxHeartbeats 8000000 in
set_option maxRecDepth 100000 in
theorem refMeet_deg (ax ay bx b_y cx cy dx dy : Int) (p q o1 o2 : Bool) (R : Int) (hp : (ax == bx && ay == b_y) = p) (hq : (cx == dx && cy == dy) = q) (h1 : onB cx cy dx dy ax ay = o1) (h2 : onB ax ay bx b_y cx cy = o2)
    (hpq : (p || q) = true) (hR : R = if (p && o1) || (q && o2) then 1 else 0) (w : World) :
    Calls Try.prog 35 #[.agg #[.int .i64 ax, .int .i64 ay], .agg #[.int .i64 bx, .int .i64 b_y], .agg #[.int .i64 cx, .int .i64 cy], .agg #[.int .i64 dx, .int .i64 dy]] w fun e w' => e = .returned (.int .i64 R) ∧ Below w.heap.size w w' := by
  have e1 := eqP ax ay bx b_y
  have e2 := eqP cx cy dx dy
  rw [hp] at e1
  rw [hq] at e2
  have c1 := refOn_any cx cy dx dy ax ay
  have c2 := refOn_any ax ay bx b_y cx cy
  rw [h1] at c1
  rw [h2] at c2
  clear hp hq h1 h2
  cases p <;> cases q <;> cases o1 <;> cases o2 <;> simp at hpq hR <;> subst hR
  all_goals
    go_enter Try.func35, Try.ntmps35
    go_wp2_with (first
      | (go_at_call_of 33 dx; refine (c1 _).mono ?_; rintro e w1 ⟨rfl, hb1⟩; obtain ⟨hc1, hf1⟩ := bcell hb1; have hz1 := hb1.size; (try simp at hz1); (try have y10 : w.heap.size < w1.heap.size := (by omega)); (try have y11 : w.heap.size + 1 < w1.heap.size := (by omega)); (try have y12 : w.heap.size + 1 + 1 < w1.heap.size := (by omega)); (try have y13 : w.heap.size + 1 + 1 + 1 < w1.heap.size := (by omega)))
      | (go_at_call_of 33 bx; refine (c2 _).mono ?_; rintro e w2 ⟨rfl, hb2⟩; obtain ⟨hc2, hf2⟩ := bcell hb2; have hz2 := hb2.size; (try simp at hz2); (try have y20 : w.heap.size < w2.heap.size := (by omega)); (try have y21 : w.heap.size + 1 < w2.heap.size := (by omega)); (try have y22 : w.heap.size + 1 + 1 < w2.heap.size := (by omega)); (try have y23 : w.heap.size + 1 + 1 + 1 < w2.heap.size := (by omega)); (try have y1x0 : w.heap.size < w1.heap.size := (by omega))))
    go_ret
    refine ⟨rfl, ?_⟩
    repeat (first | exact Below.refl _ _ | refine Below.drew ?_ | refine below_drewN ?_ _ | refine Below.setCell ?_ ?_ _ | refine Below.alloc ?_ ?_ _ | (refine Below.trans ?_ (bmono (by assumption) ?_)))
    all_goals (first | omega | (simp <;> omega))
end Go.Proofs.Ythlidkmalfjmbaa
