/- stair's functions at the chapter's own example. No condition. -/
import Derived.Test.YtoenojnfhiimpaaMea
import Derived.Test.YtoenojnfhiimpaaPla
import Derived.Test.YtoenojnfhiimpaaEvn
import Derived.Test.YtoenojnfhiimpaaSml
import Derived.Test.YtoenojnfhiimpaaFit
namespace Go.Proofs.Ytoenojnfhiimpaa
open Go.RowKit

theorem ex_plan (w : World) : Calls Try.prog 20 #[.agg #[.int .i64 150, .int .i64 180, .int .i64 260, .int .i64 320, .int .i64 590, .int .i64 650], .int .i64 1000, .int .i64 2000, .int .i64 1200, .int .i64 30] w fun e w' => e = .returned (.tuple #[.agg #[.int .i64 6, .int .i64 166, .int .i64 4, .int .i64 316, .int .i64 1200, .int .i64 30], .int .i64 0]) ∧ Below w.heap.size w w' := by
  have h := plan_any 150 180 260 320 590 650 1000 2000 1200 30 w
  rwa [show planV 150 180 260 320 590 650 1000 2000 1200 30 = .tuple #[.agg #[.int .i64 6, .int .i64 166, .int .i64 4, .int .i64 316, .int .i64 1200, .int .i64 30], .int .i64 0] by kernel_rfl] at h
theorem ex_height (w : World) : Calls Try.prog 16 #[.agg #[.int .i64 6, .int .i64 166, .int .i64 4, .int .i64 316, .int .i64 1200, .int .i64 30]] w fun e w' => e = .returned (.tuple #[.int .i64 1000, .int .i64 1896, .int .i64 0]) ∧ Below w.heap.size w w' := by
  have h := height_any 6 166 4 316 1200 30 w
  rwa [show hgtV 6 166 4 316 1200 30 = .tuple #[.int .i64 1000, .int .i64 1896, .int .i64 0] by kernel_rfl] at h
theorem ex_level (w : World) : Calls Try.prog 17 #[.agg #[.int .i64 6, .int .i64 166, .int .i64 4, .int .i64 316, .int .i64 1200, .int .i64 30], .int .i64 4] w fun e w' => e = .returned (.tuple #[.int .i64 834, .int .i64 0]) ∧ Below w.heap.size w w' := by
  have h := slevel_any 6 166 4 316 1200 30 4 w
  rwa [show levV 6 166 4 316 1200 30 4 = .tuple #[.int .i64 834, .int .i64 0] by kernel_rfl] at h
theorem ex_spread (w : World) : Calls Try.prog 23 #[.agg #[.int .i64 6, .int .i64 166, .int .i64 4, .int .i64 316, .int .i64 1200, .int .i64 30], .int .i64 2] w fun e w' => e = .returned (.tuple #[.agg #[.int .i64 988, .int .i64 1012], .int .i64 0]) ∧ Below w.heap.size w w' := by
  have h := spread_any 6 166 4 316 1200 30 2 w
  rwa [show sprV 6 166 4 316 1200 30 2 = .tuple #[.agg #[.int .i64 988, .int .i64 1012], .int .i64 0] by kernel_rfl] at h
theorem ex_even (g : Nat) (w : World) (hb : Blk w g 3 #[.int .i64 165, .int .i64 334, .int .i64 500]) : Calls Try.prog 27 #[.slice (some ⟨g, 0, none⟩) 3 3] w fun e w' => e = .returned (.tuple #[.int .i64 4, .int .i64 0]) ∧ Below w.heap.size w w' := by
  have h := even_any (some ⟨g, 0, none⟩) 3 [165, 334, 500] w (by decide) (reads_new hb rfl hb.lt)
  rwa [show evN [165, 334, 500] = 4 by kernel_rfl, show evE [165, 334, 500] = 0 by kernel_rfl] at h
theorem ex_sill (w : World) : Calls Try.prog 29 #[.int .i64 900, .int .i64 100, .int .i64 250, .int .i64 40, .int .i64 120] w fun e w' => e = .returned (.tuple #[.agg #[.int .i64 1100, .int .i64 290, .int .i64 120], .int .i64 0]) ∧ Below w.heap.size w w' := by
  have h := sill_any 900 100 250 40 120 w
  rwa [show silV 900 100 250 40 120 = .tuple #[.agg #[.int .i64 1100, .int .i64 290, .int .i64 120], .int .i64 0] by kernel_rfl] at h
theorem ex_check (w : World) : Calls Try.prog 12 #[.agg #[.int .i64 150, .int .i64 180, .int .i64 260, .int .i64 320, .int .i64 590, .int .i64 650]] w fun e w' => e = .returned (.int .i64 0) ∧ Below w.heap.size w w' := by
  have h := check_any 150 180 260 320 590 650 w
  rwa [show chkE 150 180 260 320 590 650 = 0 by kernel_rfl] at h
theorem ex_zero (w : World) : Calls Try.prog 12 #[.agg #[.int .i64 0, .int .i64 0, .int .i64 0, .int .i64 0, .int .i64 0, .int .i64 0]] w fun e w' => e = .returned (.int .i64 6) ∧ Below w.heap.size w w' := by
  have h := check_any 0 0 0 0 0 0 w
  rwa [show chkE 0 0 0 0 0 0 = 6 by kernel_rfl] at h
theorem ex_fits (w : World) : Calls Try.prog 14 #[.agg #[.int .i64 150, .int .i64 180, .int .i64 260, .int .i64 320, .int .i64 590, .int .i64 650], .agg #[.int .i64 6, .int .i64 166, .int .i64 4, .int .i64 316, .int .i64 1200, .int .i64 30]] w fun e w' => e = .returned (.int .i64 0) ∧ Below w.heap.size w w' := by
  have h := fits_any 150 180 260 320 590 650 6 166 4 316 1200 30 w
  rwa [show fitE 150 180 260 320 590 650 6 166 4 316 1200 30 = 0 by kernel_rfl] at h
theorem ex_stones (w : World) : Calls Try.prog 22 #[.agg #[.int .i64 6, .int .i64 166, .int .i64 4, .int .i64 316, .int .i64 1200, .int .i64 30]] w fun e w' => ∃ g c cur, e = .returned (.tuple #[.slice (some ⟨g, 0, none⟩) 6 c, .int .i64 0]) ∧ (w.heap.size ≤ g ∧ Blk w' g 66 cur ∧ cur.toList.take (6 * 6) = [.int .i64 0, .int .i64 0, .int .i64 0, .int .i64 346, .int .i64 1200, .int .i64 167, .int .i64 316, .int .i64 0, .int .i64 167, .int .i64 662, .int .i64 1200, .int .i64 334, .int .i64 632, .int .i64 0, .int .i64 334, .int .i64 978, .int .i64 1200, .int .i64 501, .int .i64 948, .int .i64 0, .int .i64 501, .int .i64 1294, .int .i64 1200, .int .i64 668, .int .i64 1264, .int .i64 0, .int .i64 668, .int .i64 1610, .int .i64 1200, .int .i64 834, .int .i64 1580, .int .i64 0, .int .i64 834, .int .i64 1926, .int .i64 1200, .int .i64 1000] ∧ 6 ≤ c ∧ c ≤ maxLen ∧ cur.size = c * 6) ∧ Below w.heap.size w w' := by
  refine (stones_ok 6 166 4 316 1200 30 (by kernel_rfl) w).mono ?_
  rintro e w' ⟨A, c, rfl, hown, hb⟩
  rcases hown.2 with ⟨_, h0⟩ | ⟨g, cap, cur, hv, h1, h2, h3, h4, h5, h6⟩
  · cases h0
  · injection hv with e1 e2 e3
    subst e1; subst e3
    exact ⟨g, c, cur, rfl, ⟨h1, h2, h6.trans (by kernel_rfl), h3, h4, h5⟩, hb⟩
end Go.Proofs.Ytoenojnfhiimpaa
