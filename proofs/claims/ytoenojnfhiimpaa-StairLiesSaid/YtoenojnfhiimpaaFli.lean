/- The walks of the checks of flights, stair's and the reference's. No condition. -/
import Derived.Test.YtoenojnfhiimpaaNum
import Derived.WalkSpells
import Derived.WalkLawsBesides
import Derived.Deep.QuietTactic
import Derived.BigQuiet
import Derived.Laws.StructEq
namespace Go.Proofs.Ytoenojnfhiimpaa
open Go.RowKit

def flE (n r x g w l : Int) : Int := if vldB n r x g w l = true then 0 else 1
set_option maxHeartbeats 4000000 in
set_option maxRecDepth 100000 in
theorem checkFlight_any (n r x g wd l : Int) (w : World) :
    Calls Try.prog 34 #[.agg #[.int .i64 n, .int .i64 r, .int .i64 x, .int .i64 g, .int .i64 wd, .int .i64 l]] w fun e w' => e = .returned (.int .i64 (flE n r x g wd l)) ∧ Below w.heap.size w w' := by
  by_cases hn : inB n 1 64 = true
  · obtain ⟨hn1, hn2⟩ := inB_iff.1 hn
    by_cases hg : inB g 1 10000 = true
    · obtain ⟨hg1, hg2⟩ := inB_iff.1 hg
      go_enter Try.func34, Try.ntmps34
      go_wp2_with (first | (go_at_call 39; refine (isIn_any _ _ _ _).mono ?_; rintro e w1 ⟨rfl, rfl⟩) | (go_at_call 42; refine (isSide_any _ _).mono ?_; rintro e w1 ⟨rfl, rfl⟩))
      all_goals (
        go_ret
        refine ⟨ret_int ?_, ?_⟩
        · unfold flE vldB inB at *; simp_all <;> omega
        · ((repeat (first | with_reducible exact Below.refl _ _ | with_reducible refine Below.setCell ?_ ?_ _ | with_reducible refine Below.alloc ?_ ?_ _ | with_reducible refine Below.drew ?_ | with_reducible refine below_drewN ?_ _ | (refine Below.trans ?_ (bmono (by assumption) ?_)))); all_goals (first | omega | (simp <;> omega))))
    · have hg' : inB g 1 10000 = false := by simpa using hg
      go_enter Try.func34, Try.ntmps34
      go_wp2_with (first | (go_at_call 39; refine (isIn_any _ _ _ _).mono ?_; rintro e w1 ⟨rfl, rfl⟩) | (go_at_call 42; refine (isSide_any _ _).mono ?_; rintro e w1 ⟨rfl, rfl⟩))
      all_goals (
        go_ret
        refine ⟨ret_int ?_, ?_⟩
        · unfold flE vldB; simp_all
        · ((repeat (first | with_reducible exact Below.refl _ _ | with_reducible refine Below.setCell ?_ ?_ _ | with_reducible refine Below.alloc ?_ ?_ _ | with_reducible refine Below.drew ?_ | with_reducible refine below_drewN ?_ _ | (refine Below.trans ?_ (bmono (by assumption) ?_)))); all_goals (first | omega | (simp <;> omega))))
  · have hn' : inB n 1 64 = false := by simpa using hn
    go_enter Try.func34, Try.ntmps34
    go_wp2_with (first | (go_at_call 39; refine (isIn_any _ _ _ _).mono ?_; rintro e w1 ⟨rfl, rfl⟩) | (go_at_call 42; refine (isSide_any _ _).mono ?_; rintro e w1 ⟨rfl, rfl⟩))
    all_goals (
      go_ret
      refine ⟨ret_int ?_, ?_⟩
      · unfold flE vldB; simp_all
      · ((repeat (first | with_reducible exact Below.refl _ _ | with_reducible refine Below.setCell ?_ ?_ _ | with_reducible refine Below.alloc ?_ ?_ _ | with_reducible refine Below.drew ?_ | with_reducible refine below_drewN ?_ _ | (refine Below.trans ?_ (bmono (by assumption) ?_)))); all_goals (first | omega | (simp <;> omega))))
set_option maxHeartbeats 4000000 in
set_option maxRecDepth 100000 in
theorem valid_any (n r x g wd l : Int) (w : World) :
    Calls Try.prog 18 #[.agg #[.int .i64 n, .int .i64 r, .int .i64 x, .int .i64 g, .int .i64 wd, .int .i64 l]] w fun e w' => e = .returned (.bool (vldB n r x g wd l)) ∧ Below w.heap.size w w' := by
  by_cases hn : inB n 1 64 = true
  · obtain ⟨hn1, hn2⟩ := inB_iff.1 hn
    go_enter Try.func18, Try.ntmps18
    go_wp2_with (go_at_call 32; refine (rin_any _ _ _ _).mono ?_; rintro e w1 ⟨rfl, rfl⟩)
    all_goals (
      go_ret
      refine ⟨ret_bool ?_, ?_⟩
      · unfold vldB; simp_all <;> omega
      · ((repeat (first | with_reducible exact Below.refl _ _ | with_reducible refine Below.setCell ?_ ?_ _ | with_reducible refine Below.alloc ?_ ?_ _ | with_reducible refine Below.drew ?_ | with_reducible refine below_drewN ?_ _ | (refine Below.trans ?_ (bmono (by assumption) ?_)))); all_goals (first | omega | (simp <;> omega))))
  · have hn' : inB n 1 64 = false := by simpa using hn
    go_enter Try.func18, Try.ntmps18
    go_wp2_with (go_at_call 32; refine (rin_any _ _ _ _).mono ?_; rintro e w1 ⟨rfl, rfl⟩)
    all_goals (
      go_ret
      refine ⟨ret_bool ?_, ?_⟩
      · unfold vldB; simp_all
      · ((repeat (first | with_reducible exact Below.refl _ _ | with_reducible refine Below.setCell ?_ ?_ _ | with_reducible refine Below.alloc ?_ ?_ _ | with_reducible refine Below.drew ?_ | with_reducible refine below_drewN ?_ _ | (refine Below.trans ?_ (bmono (by assumption) ?_)))); all_goals (first | omega | (simp <;> omega))))
end Go.Proofs.Ytoenojnfhiimpaa
