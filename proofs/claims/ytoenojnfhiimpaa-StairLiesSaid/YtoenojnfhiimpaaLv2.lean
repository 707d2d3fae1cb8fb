/- The walk of stair's level. No condition but that the rise is in its range. -/
import Derived.Test.YtoenojnfhiimpaaClo
import Derived.Test.YtoenojnfhiimpaaLev
namespace Go.Proofs.Ytoenojnfhiimpaa
open Go.RowKit

set_option maxHeartbeats 4000000 in
set_option maxRecDepth 100000 in
theorem level_any (n r x g wd l : Int) (k : Nat) (hk : k ≤ 1000) (h1 : 1 ≤ r) (h2 : r ≤ 10000) (w : World) :
    Calls Try.prog 38 #[.agg #[.int .i64 n, .int .i64 r, .int .i64 x, .int .i64 g, .int .i64 wd, .int .i64 l], .int .i64 ((k : Int) - 1)] w fun e w' => e = .returned (.int .i64 (lvl r x k)) ∧ Below w.heap.size w w' := by
  have hbd := fun j => lvl_bd (x := x) h1 h2 j
  have hcl := fun i s s2 gs gb hs hne W hw hK => climb_kl n r x g wd l i s s2 gs gb h1 h2 hs hne w W hw hK
  have HBD := Lib.hid hbd; clear hbd
  go_enter Try.func38, Try.ntmps38
  go_wp2
  go_loopw [11] (fun i W => ∃ j : Nat, j ≤ k ∧ i = .int .i64 j ∧ KL [(w.heap.size + 1, 3, #[.int .i64 (lvl r x j)]), (w.heap.size, 34, #[.int .i64 n, .int .i64 r, .int .i64 x, .int .i64 g, .int .i64 wd, .int .i64 l])] w W) (fun i _ => k - (intOf i).toNat)
  case atStart => exact ⟨0, Nat.zero_le _, rfl, ((KL.nil w).new rfl 34 _).new (by simp) 3 _⟩
  case round =>
    obtain ⟨j, hj, rfl, hK⟩ := hrel
    obtain ⟨y0, y1⟩ := bl1 (KL.blk hK (.head _))
    obtain ⟨b1, b2⟩ := HBD.out j
    by_cases hlt : j < k
    · obtain ⟨b3, b4⟩ := HBD.out (j + 1)
      have hs : lvl r x (j + 1) = lvl r x j + rsI r x j := rfl
      have hc := hcl j (lvl r x j) (lvl r x (j + 1)) (w.heap.size + 1) w.heap.size (by rw [hs]; exact IntWalk.i64_in _ (by rw [hs] at b3 b4; omega)) (by omega)
      have hle : (j : Int) < (k : Int) := by omega
      clear hj
      go_wp2_with (go_at_call 44; refine (hc _ (by omega) hK).mono ?_; rintro e w1 ⟨rfl, hK1⟩)
      go_roundw
      case rel => exact ⟨j + 1, by omega, by go_num, hK1⟩
      case measure => simp [intOf]; omega
    · obtain rfl : j = k := by omega
      go_wp2
      go_ret
      exact ⟨rfl, hK.1⟩
end Go.Proofs.Ytoenojnfhiimpaa
