/- Numbers of the cuts. -/
import Derived.Test.YtogmgaaejepcbaaSlm
namespace Go.Proofs.Ytogmgaaejepcbaa
open Go.RowKit

/-- how many cuts there are behind n rounds of N -/
def cutN (hi f : Int) (N n : Nat) : Nat := if n = N ∧ hi ≤ f then n - 1 else n
theorem cutN_lt {hi f : Int} {N n : Nat} (h : n < N) : cutN hi f N n = n := by unfold cutN; rw [if_neg (by omega)]
theorem cutN_yes {hi f : Int} {N : Nat} (h : f < hi) (n : Nat) : cutN hi f N n = n := by unfold cutN; rw [if_neg (by omega)]
theorem cutN_no {hi f : Int} {N : Nat} (h : hi ≤ f) : cutN hi f N N = N - 1 := by unfold cutN; rw [if_pos ⟨rfl, h⟩]
theorem frm_add (lo st : Int) (k d : Nat) : frm lo st (k + d) = frm lo st k + d * st := by
  unfold frm; rw [show ((k + d : Nat) : Int) = (k : Int) + d by omega, Int.add_mul]; omega
theorem frm_last {lo hi t k : Int} {N : Nat} (ht : 1 ≤ t) (hk : 0 ≤ k) (hn : (hi - lo + k) / (t + k) = (N : Int)) : frm lo (t + k) N ≤ hi + k ∧ hi + k < frm lo (t + k) N + (t + k) := by
  have h1 := Int.mul_ediv_add_emod (hi - lo + k) (t + k)
  have h2 := Int.emod_nonneg (hi - lo + k) (b := t + k) (by omega)
  have h3 := Int.emod_lt_of_pos (hi - lo + k) (b := t + k) (by omega)
  rw [hn, Int.mul_comm] at h1
  unfold frm
  omega
theorem frm_in {lo hi t k : Int} {N n : Nat} (ht : 1 ≤ t) (hk : 0 ≤ k) (hn : (hi - lo + k) / (t + k) = (N : Int)) (h : n + 1 ≤ N) : frm lo (t + k) n + t ≤ hi := by
  have h1 := (frm_last ht hk hn).1
  have h2 := frm_add lo (t + k) (n + 1) (N - (n + 1))
  rw [show n + 1 + (N - (n + 1)) = N by omega, frm_succ] at h2
  have h3 : 0 ≤ ((N - (n + 1) : Nat) : Int) * (t + k) := Int.mul_nonneg (by omega) (by omega)
  omega
def cuV0 (lo t k : Int) (i : Nat) : List Value := [.int .i64 0, .int .i64 (frm lo (t + k) i + t), .int .i64 k]
theorem cuV0_len (lo t k : Int) (i : Nat) : (cuV0 lo t k i).length = 3 := rfl
theorem cuV0_one (lo t k : Int) (i : Nat) : ∀ u ∈ cuV0 lo t k i, u.oneCell' = true := by
  intro u hu; simp only [cuV0, List.mem_cons, List.not_mem_nil, or_false] at hu; rcases hu with rfl | rfl | rfl <;> rfl
def cuV1 (lo t k : Int) (i : Nat) : List Value := [.int .i64 1, .int .i64 (frm lo (t + k) i + t), .int .i64 k]
theorem cuV1_len (lo t k : Int) (i : Nat) : (cuV1 lo t k i).length = 3 := rfl
theorem cuV1_one (lo t k : Int) (i : Nat) : ∀ u ∈ cuV1 lo t k i, u.oneCell' = true := by
  intro u hu; simp only [cuV1, List.mem_cons, List.not_mem_nil, or_false] at hu; rcases hu with rfl | rfl | rfl <;> rfl
def cuV2 (lo t k : Int) (i : Nat) : List Value := [.int .i64 2, .int .i64 (frm lo (t + k) i + t), .int .i64 k]
theorem cuV2_len (lo t k : Int) (i : Nat) : (cuV2 lo t k i).length = 3 := rfl
theorem cuV2_one (lo t k : Int) (i : Nat) : ∀ u ∈ cuV2 lo t k i, u.oneCell' = true := by
  intro u hu; simp only [cuV2, List.mem_cons, List.not_mem_nil, or_false] at hu; rcases hu with rfl | rfl | rfl <;> rfl
end Go.Proofs.Ytogmgaaejepcbaa
