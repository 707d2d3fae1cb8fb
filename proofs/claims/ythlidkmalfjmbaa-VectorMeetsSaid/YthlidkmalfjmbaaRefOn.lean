/- The walk of the reference's On; what turn, meet and On say of points in range. The points are in range. -/
import Derived.Test.YthlidkmalfjmbaaPts
namespace Go.Proofs.Ythlidkmalfjmbaa
open Go.RowKit

def onB (ax ay bx b_y cx cy : Int) : Bool :=
  decide (sgnI (wrap64 (lft ax ay bx cy - rgt ax ay b_y cx)) = 0) && decide (min ax bx ≤ cx) && decide (cx ≤ max ax bx) && decide (min ay b_y ≤ cy) && decide (cy ≤ max ay b_y)
set_option maxHeartbeats 2000000 in
theorem refOn_any (ax ay bx b_y cx cy : Int) (w : World) :
    Calls Try.prog 33 #[.agg #[.int .i64 ax, .int .i64 ay], .agg #[.int .i64 bx, .int .i64 b_y], .agg #[.int .i64 cx, .int .i64 cy]] w fun e w' => e = .returned (.bool (onB ax ay bx b_y cx cy)) ∧ Below w.heap.size w w' := by
  have ht := refTurn_any ax ay bx b_y cx cy
  obtain ⟨B, hB⟩ : ∃ B, B = onB ax ay bx b_y cx cy := ⟨_, rfl⟩
  rw [← hB]
  unfold onB at hB
  generalize sgnI (wrap64 (lft ax ay bx cy - rgt ax ay b_y cx)) = s at ht hB
  have HB := Lib.hid hB
  clear hB
  go_enter Try.func33, Try.ntmps33
  go_wp2_with (go_at_call 32; refine (ht _).mono ?_; rintro e w1 ⟨rfl, hb1⟩; obtain ⟨hc1, hf1⟩ := bcell hb1; have hz1 := hb1.size; (try simp at hz1); (try have y10 : w.heap.size < w1.heap.size := (by omega)); (try have y10p : w.heap.size < w1.heap.size + 1 := (by omega)); (try have y11 : w.heap.size + 1 < w1.heap.size := (by omega)); (try have y11p : w.heap.size + 1 < w1.heap.size + 1 := (by omega)); (try have y12 : w.heap.size + 1 + 1 < w1.heap.size := (by omega)); (try have y12p : w.heap.size + 1 + 1 < w1.heap.size + 1 := (by omega)); (try have v0x1 : w0.heap.size < w1.heap.size := (by omega)); (try have v0x1p : w0.heap.size < w1.heap.size + 1 := (by omega)))
  all_goals
    go_ret
    refine ⟨ret_bool ?_, ?_⟩
    · have := HB.out
      rw [this, Bool.eq_iff_iff]
      simp only [Bool.and_eq_true, decide_eq_true_eq, Bool.false_eq_true, false_iff]
      omega
    · repeat (first | exact Below.refl _ _ | refine Below.drew ?_ | refine below_drewN ?_ _ | refine Below.setCell ?_ ?_ _ | refine Below.alloc ?_ ?_ _ | (refine Below.trans ?_ (bmono (by assumption) ?_)))
      all_goals (first | omega | (simp <;> omega))

theorem mul_bd2 {x a : Int} {B : Nat} (h : x.natAbs ≤ B) (k : a.natAbs ≤ B) : (x * a).natAbs ≤ B * B := by
  rw [Int.natAbs_mul]; exact Nat.mul_le_mul h k
theorem inC_absP {n : Int} (h : inC n = true) : n.natAbs ≤ 1000000 := by have := inC_iff.1 h; omega
theorem w64b {n : Int} (h : n.natAbs ≤ 1000000000000000) : wrap64 n = n := IntWalk.wrap64_in n (by omega)
/-- the plain cross product of the ways from a to b and from a to c -/
def crs (ax ay bx b_y cx cy : Int) : Int := (bx - ax) * (cy - ay) - (b_y - ay) * (cx - ax)
theorem lft_in {ax ay bx cy : Int} (h1 : inC ax = true) (h2 : inC ay = true) (h3 : inC bx = true) (h4 : inC cy = true) : lft ax ay bx cy = (bx - ax) * (cy - ay) ∧ ((bx - ax) * (cy - ay)).natAbs ≤ 4000000000000 := by
  have := inC_absP h1
  have := inC_absP h2
  have := inC_absP h3
  have := inC_absP h4
  have hm := mul_bd2 (x := bx - ax) (a := cy - ay) (B := 2000000) (by omega) (by omega)
  refine ⟨?_, by omega⟩
  unfold lft
  rw [w64b (n := bx - ax) (by omega), w64b (n := cy - ay) (by omega), w64b (by omega)]
theorem rgt_in {ax ay b_y cx : Int} (h1 : inC ax = true) (h2 : inC ay = true) (h3 : inC b_y = true) (h4 : inC cx = true) : rgt ax ay b_y cx = (b_y - ay) * (cx - ax) ∧ ((b_y - ay) * (cx - ax)).natAbs ≤ 4000000000000 := by
  have := inC_absP h1
  have := inC_absP h2
  have := inC_absP h3
  have := inC_absP h4
  have hm := mul_bd2 (x := b_y - ay) (a := cx - ax) (B := 2000000) (by omega) (by omega)
  refine ⟨?_, by omega⟩
  unfold rgt
  rw [w64b (n := b_y - ay) (by omega), w64b (n := cx - ax) (by omega), w64b (by omega)]
theorem trn_in {ax ay bx b_y cx cy : Int} (h1 : inC ax = true) (h2 : inC ay = true) (h3 : inC bx = true) (h4 : inC b_y = true) (h5 : inC cx = true) (h6 : inC cy = true) :
    trn ax ay bx b_y cx cy = sgnI (crs ax ay bx b_y cx cy) ∧ sgnI (wrap64 (lft ax ay bx cy - rgt ax ay b_y cx)) = sgnI (crs ax ay bx b_y cx cy) := by
  obtain ⟨e1, b1⟩ := lft_in h1 h2 h3 h6
  obtain ⟨e2, b2⟩ := rgt_in h1 h2 h4 h5
  unfold trn
  rw [e1, e2]
  unfold crs
  generalize (bx - ax) * (cy - ay) = p at *
  generalize (b_y - ay) * (cx - ax) = q at *
  refine ⟨?_, by rw [w64b (by omega)]⟩
  unfold cmpI sgnI
  (repeat' split) <;> omega
end Go.Proofs.Ythlidkmalfjmbaa
