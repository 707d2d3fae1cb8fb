/- The walks of the levels of steps. No condition. -/
import Derived.Test.YtoenojnfhiimpaaNum
import Derived.WalkSpells
import Derived.WalkLawsBesides
import Derived.Deep.QuietTactic
import Derived.BigQuiet
import Derived.Laws.StructEq
namespace Go.Proofs.Ytoenojnfhiimpaa
open Go.RowKit

set_option maxHeartbeats 4000000 in
set_option maxRecDepth 100000 in
theorem rlevel_any (n r x g wd l : Int) (k : Nat) (hk : k ≤ 1000) (h1 : 1 ≤ r) (h2 : r ≤ 10000) (w : World) :
    Calls Try.prog 19 #[.agg #[.int .i64 n, .int .i64 r, .int .i64 x, .int .i64 g, .int .i64 wd, .int .i64 l], .int .i64 ((k : Int) - 1)] w fun e w' => e = .returned (.int .i64 (lvl r x k)) ∧ Below w.heap.size w w' := by
  have hbd := fun j => lvl_bd (x := x) h1 h2 j
  have hri := fun i W => rrise_any n r x g wd l i W h1 h2
  have HBD := Lib.hid hbd; clear hbd
  go_enter Try.func19, Try.ntmps19
  go_wp2
  go_loopw [6, 5] (fun i s W => ∃ j : Nat, j ≤ k ∧ i = .int .i64 j ∧ s = .int .i64 (lvl r x j) ∧ Blk W w.heap.size 27 #[.int .i64 n, .int .i64 r, .int .i64 x, .int .i64 g, .int .i64 wd, .int .i64 l] ∧ Below w.heap.size w W) (fun i _ _ => k - (intOf i).toNat)
  case atStart => exact ⟨0, Nat.zero_le _, rfl, rfl, Blk.new w 27 _, (Below.refl _ _).alloc (Nat.le_refl _) _⟩
  case round =>
    obtain ⟨j, hj, rfl, rfl, hblk, hbw⟩ := hrel
    obtain ⟨y0, y1, y2, y3, y4, y5, y6⟩ := bl6 hblk
    by_cases hlt : j < k
    · obtain ⟨b1, b2⟩ := HBD.out j
      obtain ⟨b3, b4⟩ := HBD.out (j + 1)
      have hs : lvl r x (j + 1) = lvl r x j + rsI r x j := rfl
      rw [hs] at b3 b4
      have hle : (j : Int) ≤ (k : Int) - 1 := by omega
      clear hj
      go_wp2_with (go_at_call 40; refine (hri _ _).mono ?_; rintro e w1 ⟨rfl, hb1⟩)
      go_roundw
      case rel => exact ⟨j + 1, by omega, by go_num, rfl, hblk.below hb1 y0, hbw.trans (bmono hb1 (by omega))⟩
      case measure => simp [intOf]; omega
    · obtain rfl : j = k := by omega
      have hle : ¬ (j : Int) ≤ (j : Int) - 1 := by omega
      go_wp2
      go_ret
      exact ⟨rfl, hbw⟩
end Go.Proofs.Ytoenojnfhiimpaa
