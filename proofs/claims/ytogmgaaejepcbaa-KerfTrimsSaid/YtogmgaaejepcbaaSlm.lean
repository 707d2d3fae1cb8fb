/- Numbers of the slices: where each begins. -/
import Derived.Test.YtogmgaaejepcbaaApn
import Derived.Test.YtogmgaaejepcbaaCs
import Derived.Test.YtogmgaaejepcbaaVol
namespace Go.Proofs.Ytogmgaaejepcbaa
open Go.RowKit

def frm (lo st : Int) (k : Nat) : Int := lo + k * st
theorem frm_zero (lo st : Int) : frm lo st 0 = lo := by simp [frm]
theorem frm_succ (lo st : Int) (k : Nat) : frm lo st (k + 1) = frm lo st k + st := by
  unfold frm; rw [show ((k + 1 : Nat) : Int) = (k : Int) + 1 by omega, Int.add_mul]; omega
theorem frm_bd {lo st : Int} {k : Nat} (h1 : -1000000 ≤ lo) (h2 : lo ≤ 1000000) (h3 : 0 ≤ st) (h4 : st ≤ 2001000) (hk : k ≤ 1001) : -1000000 ≤ frm lo st k ∧ frm lo st k ≤ 3000000000 := by
  have := mul_bd (a := (k : Int)) (b := st) (A := 1001) (B := 2001000) (by omega) (by omega) h3 h4
  unfold frm
  omega
def slV0 (x y z _p q r t k : Int) (i : Nat) : List Value := [.int .i64 (frm x (t + k) i), .int .i64 y, .int .i64 z, .int .i64 (frm x (t + k) i + t), .int .i64 q, .int .i64 r]
theorem slV0_len (x y z p q r t k : Int) (i : Nat) : (slV0 x y z p q r t k i).length = 6 := rfl
theorem slV0_one (x y z p q r t k : Int) (i : Nat) : ∀ u ∈ slV0 x y z p q r t k i, u.oneCell' = true := by
  intro u hu; simp only [slV0, List.mem_cons, List.not_mem_nil, or_false] at hu; rcases hu with rfl | rfl | rfl | rfl | rfl | rfl <;> rfl
def slV1 (x y z p _q r t k : Int) (i : Nat) : List Value := [.int .i64 x, .int .i64 (frm y (t + k) i), .int .i64 z, .int .i64 p, .int .i64 (frm y (t + k) i + t), .int .i64 r]
theorem slV1_len (x y z p q r t k : Int) (i : Nat) : (slV1 x y z p q r t k i).length = 6 := rfl
theorem slV1_one (x y z p q r t k : Int) (i : Nat) : ∀ u ∈ slV1 x y z p q r t k i, u.oneCell' = true := by
  intro u hu; simp only [slV1, List.mem_cons, List.not_mem_nil, or_false] at hu; rcases hu with rfl | rfl | rfl | rfl | rfl | rfl <;> rfl
def slV2 (x y z p q _r t k : Int) (i : Nat) : List Value := [.int .i64 x, .int .i64 y, .int .i64 (frm z (t + k) i), .int .i64 p, .int .i64 q, .int .i64 (frm z (t + k) i + t)]
theorem slV2_len (x y z p q r t k : Int) (i : Nat) : (slV2 x y z p q r t k i).length = 6 := rfl
theorem slV2_one (x y z p q r t k : Int) (i : Nat) : ∀ u ∈ slV2 x y z p q r t k i, u.oneCell' = true := by
  intro u hu; simp only [slV2, List.mem_cons, List.not_mem_nil, or_false] at hu; rcases hu with rfl | rfl | rfl | rfl | rfl | rfl <;> rfl
end Go.Proofs.Ytogmgaaejepcbaa
