/- The walk of the law's own examples (awake): it answers true. No condition. -/
import Derived.Test.YthlidkmalfjmbaaPts
import Derived.Test.YthlidkmalfjmbaaCross
import Derived.Test.YthlidkmalfjmbaaGcd
import Derived.Test.YthlidkmalfjmbaaEqa
namespace Go.Proofs.Ythlidkmalfjmbaa
open Go.RowKit

theorem ex_dot (w : World) : Calls Try.prog 22 #[.agg #[.int .i64 1, .int .i64 2, .int .i64 3], .agg #[.int .i64 4, .int .i64 5, .int .i64 6]] w fun e w' => e = .returned (.tuple #[.int .i64 32, .int .i64 0]) ∧ Below w.heap.size w w' := by
  have h := Dot_any 1 2 3 4 5 6 w
  rw [show dotV 1 2 3 4 5 6 = (32, 0) by decide +kernel] at h
  exact h
theorem ex_cross (w : World) : Calls Try.prog 23 #[.agg #[.int .i64 1, .int .i64 2, .int .i64 3], .agg #[.int .i64 4, .int .i64 5, .int .i64 6]] w fun e w' => e = .returned (.tuple #[.agg #[.int .i64 (-3), .int .i64 6, .int .i64 (-3)], .int .i64 0]) ∧ Below w.heap.size w w' := by
  have h := cross_ok 1 2 3 4 5 6 (by decide +kernel) (by decide +kernel) w
  rw [show wrap64 (wrap64 (2 * 6) - wrap64 (3 * 5)) = -3 by decide +kernel, show wrap64 (wrap64 (3 * 4) - wrap64 (1 * 6)) = 6 by decide +kernel, show wrap64 (wrap64 (1 * 5) - wrap64 (2 * 4)) = -3 by decide +kernel] at h
  exact h
theorem ex_prim (w : World) : Calls Try.prog 27 #[.agg #[.int .i64 6, .int .i64 (-9), .int .i64 0]] w fun e w' => e = .returned (.tuple #[.agg #[.int .i64 2, .int .i64 (-3), .int .i64 0], .int .i64 3, .int .i64 0]) ∧ Below w.heap.size w w' := by
  have h := prim_ok 6 (-9) 0 (by decide +kernel) (by decide +kernel) (by decide +kernel) (by decide +kernel) (by decide +kernel) w
  rw [show gcd3 6 (-9) 0 = 3 by decide +kernel] at h
  exact h
theorem ex_turn (w : World) : Calls Try.prog 29 #[.agg #[.int .i64 0, .int .i64 0], .agg #[.int .i64 10, .int .i64 0], .agg #[.int .i64 5, .int .i64 1]] w fun e w' => e = .returned (.tuple #[.int .i64 1, .int .i64 0]) ∧ Below w.heap.size w w' := by
  have h := Turn_ok 0 0 10 0 5 1 (by decide +kernel) w
  rw [show cmpI (lft 0 0 10 1) (rgt 0 0 0 5) = 1 by decide +kernel] at h
  exact h
theorem ex_meet (w : World) : Calls Try.prog 34 #[.agg #[.int .i64 0, .int .i64 0], .agg #[.int .i64 10, .int .i64 10], .agg #[.int .i64 0, .int .i64 10], .agg #[.int .i64 10, .int .i64 0]] w fun e w' => e = .returned (.tuple #[.int .i64 1, .int .i64 0]) ∧ Below w.heap.size w w' := by
  have h := Meet_ok 0 0 10 10 0 10 10 0 (by decide +kernel) w
  rw [show meetS 0 0 10 10 0 10 10 0 = 1 by decide +kernel] at h
  exact h
theorem ex_on (w : World) : Calls Try.prog 30 #[.agg #[.int .i64 0, .int .i64 0], .agg #[.int .i64 10, .int .i64 0], .agg #[.int .i64 5, .int .i64 0]] w fun e w' => e = .returned (.tuple #[.bool true, .int .i64 0]) ∧ Below w.heap.size w w' := by
  have h := On_ok 0 0 10 0 5 0 (by decide +kernel) w
  rw [show decide (meetS 0 0 10 0 5 0 5 0 > 0) = true by decide +kernel] at h
  exact h
theorem ex_cmp (w : World) : Calls Try.prog 17 #[.agg #[.int .i64 0, .int .i64 0, .int .i64 0], .agg #[.int .i64 0, .int .i64 0, .int .i64 1]] w fun e w' => e = .returned (.int .i64 (-1)) ∧ Below w.heap.size w w' := by
  have h := compare_any 0 0 0 0 0 1 w
  rw [show cmp3 0 0 0 0 0 1 = -1 by decide +kernel] at h
  exact h
set_option maxHeartbeats 4000000 in
set_option maxRecDepth 100000 in
theorem awake_any (w : World) : Calls Try.prog 12 #[] w fun e w' => e = .returned (.bool true) ∧ Below w.heap.size w w' := by
  have e3 : ∀ w, Sem.run Try.prog (binOp .eql 36 (.agg #[.int .i64 (-3), .int .i64 6, .int .i64 (-3)]) (.agg #[.int .i64 (-3), .int .i64 6, .int .i64 (-3)])) w = .ok (.bool true) w := fun w => eqA3 _ _ _ _ _ _ w
  have ev : ∀ w, Sem.run Try.prog (binOp .eql 23 (.agg #[.int .i64 2, .int .i64 (-3), .int .i64 0]) (.agg #[.int .i64 2, .int .i64 (-3), .int .i64 0])) w = .ok (.bool true) w := fun w => eqV _ _ _ _ _ _ w
  go_enter Try.func12, Try.ntmps12
  go_wp2_with (first
    | (go_at_call 22; refine (ex_dot _).mono ?_; rintro e w1 ⟨rfl, hb1⟩; obtain ⟨hc1, hf1⟩ := bcell hb1; have hz1 := hb1.size; (try simp at hz1); (try have y10 : w.heap.size < w1.heap.size := (by omega)); (try have y11 : w.heap.size + 1 < w1.heap.size := (by omega)); (try have y12 : w.heap.size + 1 + 1 < w1.heap.size := (by omega)); (try have y13 : w.heap.size + 1 + 1 + 1 < w1.heap.size := (by omega)); (try have y14 : w.heap.size + 1 + 1 + 1 + 1 < w1.heap.size := (by omega)))
    | (go_at_call 23; refine (ex_cross _).mono ?_; rintro e w2 ⟨rfl, hb2⟩; obtain ⟨hc2, hf2⟩ := bcell hb2; have hz2 := hb2.size; (try simp at hz2); (try have y20 : w.heap.size < w2.heap.size := (by omega)); (try have y21 : w.heap.size + 1 < w2.heap.size := (by omega)); (try have y22 : w.heap.size + 1 + 1 < w2.heap.size := (by omega)); (try have y23 : w.heap.size + 1 + 1 + 1 < w2.heap.size := (by omega)); (try have y24 : w.heap.size + 1 + 1 + 1 + 1 < w2.heap.size := (by omega)))
    | (go_at_call 27; refine (ex_prim _).mono ?_; rintro e w3 ⟨rfl, hb3⟩; obtain ⟨hc3, hf3⟩ := bcell hb3; have hz3 := hb3.size; (try simp at hz3); (try have y30 : w.heap.size < w3.heap.size := (by omega)); (try have y31 : w.heap.size + 1 < w3.heap.size := (by omega)); (try have y32 : w.heap.size + 1 + 1 < w3.heap.size := (by omega)); (try have y33 : w.heap.size + 1 + 1 + 1 < w3.heap.size := (by omega)); (try have y34 : w.heap.size + 1 + 1 + 1 + 1 < w3.heap.size := (by omega)); (try have v3 : w2.heap.size < w3.heap.size := (by omega)); (try have v3' : w2.heap.size < w3.heap.size + 1 := (by omega)))
    | (go_at_call 29; refine (ex_turn _).mono ?_; rintro e w4 ⟨rfl, hb4⟩; obtain ⟨hc4, hf4⟩ := bcell hb4; have hz4 := hb4.size; (try simp at hz4); (try have y40 : w.heap.size < w4.heap.size := (by omega)); (try have y41 : w.heap.size + 1 < w4.heap.size := (by omega)); (try have y42 : w.heap.size + 1 + 1 < w4.heap.size := (by omega)); (try have y43 : w.heap.size + 1 + 1 + 1 < w4.heap.size := (by omega)); (try have y44 : w.heap.size + 1 + 1 + 1 + 1 < w4.heap.size := (by omega)); (try have v4 : w2.heap.size < w4.heap.size := (by omega)); (try have v4' : w3.heap.size < w4.heap.size := (by omega)))
    | (go_at_call 34; refine (ex_meet _).mono ?_; rintro e w5 ⟨rfl, hb5⟩; obtain ⟨hc5, hf5⟩ := bcell hb5; have hz5 := hb5.size; (try simp at hz5); (try have y50 : w.heap.size < w5.heap.size := (by omega)); (try have y51 : w.heap.size + 1 < w5.heap.size := (by omega)); (try have y52 : w.heap.size + 1 + 1 < w5.heap.size := (by omega)); (try have y53 : w.heap.size + 1 + 1 + 1 < w5.heap.size := (by omega)); (try have y54 : w.heap.size + 1 + 1 + 1 + 1 < w5.heap.size := (by omega)); (try have v5 : w2.heap.size < w5.heap.size := (by omega)); (try have v5' : w3.heap.size < w5.heap.size := (by omega)))
    | (go_at_call 30; refine (ex_on _).mono ?_; rintro e w6 ⟨rfl, hb6⟩; obtain ⟨hc6, hf6⟩ := bcell hb6; have hz6 := hb6.size; (try simp at hz6); (try have y60 : w.heap.size < w6.heap.size := (by omega)); (try have y61 : w.heap.size + 1 < w6.heap.size := (by omega)); (try have y62 : w.heap.size + 1 + 1 < w6.heap.size := (by omega)); (try have y63 : w.heap.size + 1 + 1 + 1 < w6.heap.size := (by omega)); (try have y64 : w.heap.size + 1 + 1 + 1 + 1 < w6.heap.size := (by omega)); (try have v6 : w2.heap.size < w6.heap.size := (by omega)); (try have v6' : w3.heap.size < w6.heap.size := (by omega)))
    | (go_at_call 17; refine (ex_cmp _).mono ?_; rintro e w7 ⟨rfl, hb7⟩; obtain ⟨hc7, hf7⟩ := bcell hb7; have hz7 := hb7.size; (try simp at hz7); (try have y70 : w.heap.size < w7.heap.size := (by omega)); (try have y71 : w.heap.size + 1 < w7.heap.size := (by omega)); (try have y72 : w.heap.size + 1 + 1 < w7.heap.size := (by omega)); (try have y73 : w.heap.size + 1 + 1 + 1 < w7.heap.size := (by omega)); (try have y74 : w.heap.size + 1 + 1 + 1 + 1 < w7.heap.size := (by omega))))
  go_ret
  refine ⟨rfl, ?_⟩
  repeat (first | exact Below.refl _ _ | refine Below.drew ?_ | refine below_drewN ?_ _ | refine Below.setCell ?_ ?_ _ | refine Below.alloc ?_ ?_ _ | (refine Below.trans ?_ (bmono (by assumption) ?_)))
  all_goals (first | omega | (simp <;> omega))
end Go.Proofs.Ythlidkmalfjmbaa
