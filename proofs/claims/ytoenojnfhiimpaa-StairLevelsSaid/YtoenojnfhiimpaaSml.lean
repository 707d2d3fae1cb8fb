/- The walks of Sill, stair's and the reference's, and of the reference's Spread and Fits. No condition. -/
import Derived.Test.YtoenojnfhiimpaaFit
import Derived.Test.YtoenojnfhiimpaaLv2
namespace Go.Proofs.Ytoenojnfhiimpaa
open Go.RowKit

def silB (o b d n h : Int) : Bool := inB o 1 10000 && (inB d 1 10000 && (inB h 1 10000 && (inB b 0 1000 && inB n 0 1000)))
theorem silB_iff {o b d n h : Int} : silB o b d n h = true ↔ (1 ≤ o ∧ o ≤ 10000 ∧ 1 ≤ d ∧ d ≤ 10000 ∧ 1 ≤ h ∧ h ≤ 10000 ∧ 0 ≤ b ∧ b ≤ 1000 ∧ 0 ≤ n ∧ n ≤ 1000) := by simp [silB, inB]; omega
def silV (o b d n h : Int) : Value := if silB o b d n h = true then .tuple #[.agg #[.int .i64 (o + 2 * b), .int .i64 (d + n), .int .i64 h], .int .i64 0] else .tuple #[.agg #[.int .i64 0, .int .i64 0, .int .i64 0], .int .i64 6]
set_option maxHeartbeats 4000000 in
set_option maxRecDepth 100000 in
theorem sill_any (o b d n h : Int) (w : World) : Calls Try.prog 29 #[.int .i64 o, .int .i64 b, .int .i64 d, .int .i64 n, .int .i64 h] w fun e w' => e = .returned (silV o b d n h) ∧ Below w.heap.size w w' := by
  by_cases hv : silB o b d n h = true
  · obtain ⟨v1, v2, v3, v4, v5, v6, v7, v8, v9, v10⟩ := silB_iff.1 hv
    have a1 : inB o 1 10000 = true := inB_iff.2 ⟨v1, v2⟩
    have a2 : inB d 1 10000 = true := inB_iff.2 ⟨v3, v4⟩
    have a3 : inB h 1 10000 = true := inB_iff.2 ⟨v5, v6⟩
    have a4 : inB b 0 1000 = true := inB_iff.2 ⟨v7, v8⟩
    have a5 : inB n 0 1000 = true := inB_iff.2 ⟨v9, v10⟩
    rw [show silV o b d n h = .tuple #[.agg #[.int .i64 (o + 2 * b), .int .i64 (d + n), .int .i64 h], .int .i64 0] from if_pos hv]
    clear hv
    go_enter Try.func29, Try.ntmps29
    go_wp2_with (go_at_call 39; refine (isIn_any _ _ _ _).mono ?_; rintro e w1 ⟨rfl, rfl⟩)
    exact bodyPost_ret (v := .tuple #[.agg #[.int .i64 (o + 2 * b), .int .i64 (d + n), .int .i64 h], .int .i64 0]) (by simp [results, Try.results29, go_sem]) rfl ⟨rfl, by ((repeat (first | with_reducible exact Below.refl _ _ | with_reducible refine Below.setCell ?_ ?_ _ | with_reducible refine Below.alloc ?_ ?_ _ | with_reducible refine Below.drew ?_ | with_reducible refine below_drewN ?_ _ | (refine Below.trans ?_ (bmono (by assumption) ?_)))); all_goals (first | omega | (simp <;> omega)))⟩
  · rw [show silV o b d n h = .tuple #[.agg #[.int .i64 0, .int .i64 0, .int .i64 0], .int .i64 6] from if_neg hv]
    have hcase : inB o 1 10000 = false ∨ (inB o 1 10000 = true ∧ inB d 1 10000 = false) ∨ (inB o 1 10000 = true ∧ inB d 1 10000 = true ∧ inB h 1 10000 = false) ∨ (inB o 1 10000 = true ∧ inB d 1 10000 = true ∧ inB h 1 10000 = true ∧ inB b 0 1000 = false) ∨ (inB o 1 10000 = true ∧ inB d 1 10000 = true ∧ inB h 1 10000 = true ∧ inB b 0 1000 = true ∧ inB n 0 1000 = false) := by
      unfold silB at hv; revert hv; cases inB o 1 10000 <;> cases inB d 1 10000 <;> cases inB h 1 10000 <;> cases inB b 0 1000 <;> cases inB n 0 1000 <;> simp
    clear hv
    rcases hcase with a1 | ⟨a1, a2⟩ | ⟨a1, a2, a3⟩ | ⟨a1, a2, a3, a4⟩ | ⟨a1, a2, a3, a4, a5⟩
    all_goals (
      go_enter Try.func29, Try.ntmps29
      go_wp2_with (go_at_call 39; refine (isIn_any _ _ _ _).mono ?_; rintro e w1 ⟨rfl, rfl⟩)
      exact bodyPost_ret (v := .tuple #[.agg #[.int .i64 0, .int .i64 0, .int .i64 0], .int .i64 6]) (by simp [results, Try.results29, go_sem]) rfl ⟨rfl, by ((repeat (first | with_reducible exact Below.refl _ _ | with_reducible refine Below.setCell ?_ ?_ _ | with_reducible refine Below.alloc ?_ ?_ _ | with_reducible refine Below.drew ?_ | with_reducible refine below_drewN ?_ _ | (refine Below.trans ?_ (bmono (by assumption) ?_)))); all_goals (first | omega | (simp <;> omega)))⟩)
set_option maxHeartbeats 4000000 in
set_option maxRecDepth 100000 in
theorem rsill_any (o b d n h : Int) (w : World) : Calls Try.prog 30 #[.int .i64 o, .int .i64 b, .int .i64 d, .int .i64 n, .int .i64 h] w fun e w' => e = .returned (silV o b d n h) ∧ Below w.heap.size w w' := by
  by_cases hv : silB o b d n h = true
  · obtain ⟨v1, v2, v3, v4, v5, v6, v7, v8, v9, v10⟩ := silB_iff.1 hv
    have a1 : inB o 1 10000 = true := inB_iff.2 ⟨v1, v2⟩
    have a2 : inB d 1 10000 = true := inB_iff.2 ⟨v3, v4⟩
    have a3 : inB h 1 10000 = true := inB_iff.2 ⟨v5, v6⟩
    have a4 : inB b 0 1000 = true := inB_iff.2 ⟨v7, v8⟩
    have a5 : inB n 0 1000 = true := inB_iff.2 ⟨v9, v10⟩
    rw [show silV o b d n h = .tuple #[.agg #[.int .i64 (o + 2 * b), .int .i64 (d + n), .int .i64 h], .int .i64 0] from if_pos hv]
    clear hv
    go_enter Try.func30, Try.ntmps30
    go_wp2_with (go_at_call 32; refine (rin_any _ _ _ _).mono ?_; rintro e w1 ⟨rfl, rfl⟩)
    exact bodyPost_ret (v := .tuple #[.agg #[.int .i64 (o + 2 * b), .int .i64 (d + n), .int .i64 h], .int .i64 0]) (by simp [results, Try.results30, go_sem]) rfl ⟨rfl, by ((repeat (first | with_reducible exact Below.refl _ _ | with_reducible refine Below.setCell ?_ ?_ _ | with_reducible refine Below.alloc ?_ ?_ _ | with_reducible refine Below.drew ?_ | with_reducible refine below_drewN ?_ _ | (refine Below.trans ?_ (bmono (by assumption) ?_)))); all_goals (first | omega | (simp <;> omega)))⟩
  · rw [show silV o b d n h = .tuple #[.agg #[.int .i64 0, .int .i64 0, .int .i64 0], .int .i64 6] from if_neg hv]
    have hcase : inB o 1 10000 = false ∨ (inB o 1 10000 = true ∧ inB d 1 10000 = false) ∨ (inB o 1 10000 = true ∧ inB d 1 10000 = true ∧ inB h 1 10000 = false) ∨ (inB o 1 10000 = true ∧ inB d 1 10000 = true ∧ inB h 1 10000 = true ∧ inB b 0 1000 = false) ∨ (inB o 1 10000 = true ∧ inB d 1 10000 = true ∧ inB h 1 10000 = true ∧ inB b 0 1000 = true ∧ inB n 0 1000 = false) := by
      unfold silB at hv; revert hv; cases inB o 1 10000 <;> cases inB d 1 10000 <;> cases inB h 1 10000 <;> cases inB b 0 1000 <;> cases inB n 0 1000 <;> simp
    clear hv
    rcases hcase with a1 | ⟨a1, a2⟩ | ⟨a1, a2, a3⟩ | ⟨a1, a2, a3, a4⟩ | ⟨a1, a2, a3, a4, a5⟩
    all_goals (
      go_enter Try.func30, Try.ntmps30
      go_wp2_with (go_at_call 32; refine (rin_any _ _ _ _).mono ?_; rintro e w1 ⟨rfl, rfl⟩)
      exact bodyPost_ret (v := .tuple #[.agg #[.int .i64 0, .int .i64 0, .int .i64 0], .int .i64 6]) (by simp [results, Try.results30, go_sem]) rfl ⟨rfl, by ((repeat (first | with_reducible exact Below.refl _ _ | with_reducible refine Below.setCell ?_ ?_ _ | with_reducible refine Below.alloc ?_ ?_ _ | with_reducible refine Below.drew ?_ | with_reducible refine below_drewN ?_ _ | (refine Below.trans ?_ (bmono (by assumption) ?_)))); all_goals (first | omega | (simp <;> omega)))⟩)
end Go.Proofs.Ytoenojnfhiimpaa
