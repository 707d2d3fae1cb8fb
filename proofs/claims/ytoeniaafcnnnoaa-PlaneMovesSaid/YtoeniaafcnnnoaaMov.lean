/- The walk of the law's own moved, and what it does to the greatest value. The numbers are in range. -/
import Derived.Test.YtoeniaafcnnnoaaAwp
namespace Go.Proofs.Ytoeniaafcnnnoaa
open Go.RowKit

def dX (k n : Int) : Int := if k = 0 then n else if k = 1 then -n else 0
def dY (k n : Int) : Int := if k = 2 then n else if k = 3 then -n else 0
def dZ (k n : Int) : Int := if k = 4 then n else if k = 5 then -n else 0
set_option maxHeartbeats 8000000 in
set_option maxRecDepth 100000 in
theorem moved_any (x y z p q r k n : Int) (hk : 0 ≤ k) (hk5 : k ≤ 5) (hn : 0 ≤ n ∧ n ≤ 2000000) (bx : -1000000 ≤ x ∧ x ≤ 1000000) (b_y : -1000000 ≤ y ∧ y ≤ 1000000) (bz : -1000000 ≤ z ∧ z ≤ 1000000) (bp : -1000000 ≤ p ∧ p ≤ 1000000) (bq : -1000000 ≤ q ∧ q ≤ 1000000) (br : -1000000 ≤ r ∧ r ≤ 1000000) (w : World) :
    Calls Try.prog 37 #[.agg #[.int .i64 x, .int .i64 y, .int .i64 z, .int .i64 p, .int .i64 q, .int .i64 r], .int .i64 k, .int .i64 n] w fun e w' => e = .returned (.agg #[.int .i64 (x + dX k n), .int .i64 (y + dY k n), .int .i64 (z + dZ k n), .int .i64 (p + dX k n), .int .i64 (q + dY k n), .int .i64 (r + dZ k n)]) ∧ Below w.heap.size w w' := by
  rcases six hk hk5 with rfl | rfl | rfl | rfl | rfl | rfl
  all_goals
    clear hk hk5
    simp only [dX, dY, dZ, Int.reduceEq, if_false, if_true, Int.add_zero]
    go_enter Try.func37, Try.ntmps37
    go_wp2
    refine bodyPost_ret (v := .agg #[_, _, _, _, _, _]) (by simp [results, Try.results37, go_sem]) rfl ⟨rfl, ?_⟩
    repeat (first | with_reducible exact Below.refl _ _ | with_reducible refine Below.setCell ?_ ?_ _ | with_reducible refine Below.alloc ?_ ?_ _ | with_reducible refine Below.drew ?_ | with_reducible refine below_drewN ?_ _ | (refine Below.trans ?_ (bmono (by assumption) ?_)))
    all_goals (first | omega | (simp <;> omega))
theorem hi_move (a b c d x y z p q r k n : Int) (hk : 0 ≤ k) (hk5 : k ≤ 5) :
    hiS a b c d (x + dX k n) (y + dY k n) (z + dZ k n) (p + dX k n) (q + dY k n) (r + dZ k n) = hiS a b c d x y z p q r + dirI a b c k * n := by
  have key : ∀ f lo hi D : Int, hiI (f * (lo + D)) (f * (hi + D)) = hiI (f * lo) (f * hi) + f * D := by
    intro f lo hi D
    rw [Int.mul_add, Int.mul_add]
    unfold hiI
    (repeat' split) <;> omega
  unfold hiS
  rw [key, key, key]
  have e : a * dX k n + b * dY k n + c * dZ k n = dirI a b c k * n := by
    rcases six hk hk5 with rfl | rfl | rfl | rfl | rfl | rfl <;> simp [dX, dY, dZ, dirI, Int.mul_neg, Int.neg_mul]
  omega
def sdI (a b c d x y z p q r : Int) : Int := if eHB a b c d x y z p q r = 0 then sideI (loS a b c d x y z p q r) (hiS a b c d x y z p q r) else 0
theorem Side_all (a b c d x y z p q r : Int) (w : World) :
    Calls Try.prog 24 #[.agg #[.int .i64 a, .int .i64 b, .int .i64 c, .int .i64 d], .agg #[.int .i64 x, .int .i64 y, .int .i64 z, .int .i64 p, .int .i64 q, .int .i64 r]] w fun e w' => e = .returned (.tuple #[.int .i64 (sdI a b c d x y z p q r), .int .i64 (eHB a b c d x y z p q r)]) ∧ Below w.heap.size w w' := by
  by_cases h : eHB a b c d x y z p q r = 0
  · rw [show sdI a b c d x y z p q r = sideI (loS a b c d x y z p q r) (hiS a b c d x y z p q r) by unfold sdI; rw [if_pos h]]
    rw [h]
    exact Side_ok a b c d x y z p q r h w
  · rw [show sdI a b c d x y z p q r = 0 by unfold sdI; rw [if_neg h]]
    exact Side_bad a b c d x y z p q r h w
theorem side_one {s t : Int} : sideI s t = 1 ↔ t ≤ 0 := by unfold sideI; (repeat' split) <;> omega
end Go.Proofs.Ytoeniaafcnnnoaa
