/- The reference's Meet answers the code's number. The points are in range. -/
import Derived.Test.YthlidkmalfjmbaaRml
import Derived.Test.YthlidkmalfjmbaaRmg
import Derived.Test.YthlidkmalfjmbaaSegs
namespace Go.Proofs.Ythlidkmalfjmbaa
open Go.RowKit

theorem sgn_bd (n : Int) : -1 ≤ sgnI n ∧ sgnI n ≤ 1 := by unfold sgnI; (repeat' split) <;> omega
theorem mul_sm {s t : Int} (h1 : -1 ≤ s ∧ s ≤ 1) (h2 : -1 ≤ t ∧ t ≤ 1) : -1 ≤ s * t ∧ s * t ≤ 1 := by
  have e1 : s = -1 ∨ s = 0 ∨ s = 1 := by omega
  have e2 : t = -1 ∨ t = 0 ∨ t = 1 := by omega
  rcases e1 with rfl | rfl | rfl <;> rcases e2 with rfl | rfl | rfl <;> decide
theorem refMeet_dg (ax ay bx b_y cx cy dx dy : Int) (h : inP4 ax ay bx b_y cx cy dx dy) (hpq : (ax == bx && ay == b_y) = true ∨ (cx == dx && cy == dy) = true) (w : World) :
    Calls Try.prog 35 #[.agg #[.int .i64 ax, .int .i64 ay], .agg #[.int .i64 bx, .int .i64 b_y], .agg #[.int .i64 cx, .int .i64 cy], .agg #[.int .i64 dx, .int .i64 dy]] w fun e w' => e = .returned (.int .i64 (meetS ax ay bx b_y cx cy dx dy)) ∧ Below w.heap.size w w' := by
  obtain ⟨ha, hb, hc, hd⟩ := h
  refine refMeet_deg ax ay bx b_y cx cy dx dy (ax == bx && ay == b_y) (cx == dx && cy == dy) (onB cx cy dx dy ax ay) (onB ax ay bx b_y cx cy) _ rfl rfl rfl rfl (by simpa using hpq) ?_ w
  by_cases hp : (ax == bx && ay == b_y) = true
  · rw [hp]
    simp only [Bool.and_eq_true, beq_iff_eq] at hp
    obtain ⟨rfl, rfl⟩ := hp
    by_cases hq : (cx == dx && cy == dy) = true
    · rw [hq]
      simp only [Bool.and_eq_true, beq_iff_eq] at hq
      obtain ⟨rfl, rfl⟩ := hq
      rw [deg2 ha ha hc, on_pts ha hc]
      simp
    · rw [Bool.not_eq_true] at hq
      rw [hq, deg1 ha hc hd]
      simp
  · rw [Bool.not_eq_true] at hp
    have hq : (cx == dx && cy == dy) = true := by
      rcases hpq with h | h
      · rw [hp] at h; cases h
      · exact h
    rw [hp, hq]
    simp only [Bool.and_eq_true, beq_iff_eq] at hq
    obtain ⟨rfl, rfl⟩ := hq
    rw [deg2 ha hb hc]
    simp
theorem ne_pts {x y a b : Int} (h : (x == a && y == b) = false) : ¬ (x = a ∧ y = b) := by
  rintro ⟨rfl, rfl⟩; simp at h
theorem refMeet_ge (ax ay bx b_y cx cy dx dy : Int) (h : inP4 ax ay bx b_y cx cy dx dy) (hp : (ax == bx && ay == b_y) = false) (hq : (cx == dx && cy == dy) = false) (w : World) :
    Calls Try.prog 35 #[.agg #[.int .i64 ax, .int .i64 ay], .agg #[.int .i64 bx, .int .i64 b_y], .agg #[.int .i64 cx, .int .i64 cy], .agg #[.int .i64 dx, .int .i64 dy]] w fun e w' => e = .returned (.int .i64 (meetS ax ay bx b_y cx cy dx dy)) ∧ Below w.heap.size w w' := by
  obtain ⟨ha, hb, hc, hd⟩ := h
  have k1 : inP3 ax ay bx b_y cx cy := ⟨ha, hb, hc⟩
  have k2 : inP3 ax ay bx b_y dx dy := ⟨ha, hb, hd⟩
  have k3 : inP3 cx cy dx dy ax ay := ⟨hc, hd, ha⟩
  have k4 : inP3 cx cy dx dy bx b_y := ⟨hc, hd, hb⟩
  have hT1 := refTurn_any ax ay bx b_y cx cy
  have hT2 := refTurn_any ax ay bx b_y dx dy
  have hT3 := refTurn_any cx cy dx dy ax ay
  have hT4 := refTurn_any cx cy dx dy bx b_y
  rw [ref_eq k1, ← trn_eq k1] at hT1
  rw [ref_eq k2, ← trn_eq k2] at hT2
  rw [ref_eq k3, ← trn_eq k3] at hT3
  rw [ref_eq k4, ← trn_eq k4] at hT4
  have n1 := sgn_bd (crs ax ay bx b_y cx cy)
  have n2 := sgn_bd (crs ax ay bx b_y dx dy)
  have n3 := sgn_bd (crs cx cy dx dy ax ay)
  have n4 := sgn_bd (crs cx cy dx dy bx b_y)
  rw [← trn_eq k1] at n1
  rw [← trn_eq k2] at n2
  rw [← trn_eq k3] at n3
  rw [← trn_eq k4] at n4
  have m12 := mul_sm n1 n2
  have m34 := mul_sm n3 n4
  have w12 : IntKind.i64.wrap (trn ax ay bx b_y cx cy * trn ax ay bx b_y dx dy) = trn ax ay bx b_y cx cy * trn ax ay bx b_y dx dy := IntWalk.i64_in _ (by omega)
  have w34 : IntKind.i64.wrap (trn cx cy dx dy ax ay * trn cx cy dx dy bx b_y) = trn cx cy dx dy ax ay * trn cx cy dx dy bx b_y := IntWalk.i64_in _ (by omega)
  by_cases hl : trn ax ay bx b_y cx cy = 0 ∧ trn ax ay bx b_y dx dy = 0
  · obtain ⟨z1, z2⟩ := hl
    have c1 : crs ax ay bx b_y cx cy = 0 := by rw [trn_eq k1] at z1; exact sgnI_zero.1 z1
    have c2 : crs ax ay bx b_y dx dy = 0 := by rw [trn_eq k2] at z2; exact sgnI_zero.1 z2
    have z3 : trn cx cy dx dy ax ay = 0 := by rw [trn_eq k3, par c1 c2 (ne_pts hp)]; rfl
    have z4 : trn cx cy dx dy bx b_y = 0 := by
      rw [trn_eq k4, par (ax := bx) (ay := b_y) (bx := ax) (b_y := ay) (by rw [crs_swap, c1]; rfl) (by rw [crs_swap, c2]; rfl) (fun hh => ne_pts hp ⟨hh.1.symm, hh.2.symm⟩)]; rfl
    have hm : meetS ax ay bx b_y cx cy dx dy = molS ax ay bx b_y cx cy dx dy := by unfold meetS; rw [if_pos ⟨z1, z2, z3, z4⟩]
    rw [hm]
    have hs1 := srt_any ax ay bx b_y
    have hs2 := srt_any cx cy dx dy
    have mr := mol_ref ax ay bx b_y cx cy dx dy _ _ rfl rfl
    obtain ⟨p1x, hp1x⟩ : ∃ v, v = (srt ax ay bx b_y).1.1 := ⟨_, rfl⟩
    obtain ⟨p1y, hp1y⟩ : ∃ v, v = (srt ax ay bx b_y).1.2 := ⟨_, rfl⟩
    obtain ⟨p2x, hp2x⟩ : ∃ v, v = (srt ax ay bx b_y).2.1 := ⟨_, rfl⟩
    obtain ⟨p2y, hp2y⟩ : ∃ v, v = (srt ax ay bx b_y).2.2 := ⟨_, rfl⟩
    obtain ⟨q1x, hq1x⟩ : ∃ v, v = (srt cx cy dx dy).1.1 := ⟨_, rfl⟩
    obtain ⟨q1y, hq1y⟩ : ∃ v, v = (srt cx cy dx dy).1.2 := ⟨_, rfl⟩
    obtain ⟨q2x, hq2x⟩ : ∃ v, v = (srt cx cy dx dy).2.1 := ⟨_, rfl⟩
    obtain ⟨q2y, hq2y⟩ : ∃ v, v = (srt cx cy dx dy).2.2 := ⟨_, rfl⟩
    have ex1 : (srt ax ay bx b_y).1 = (p1x, p1y) := by rw [hp1x, hp1y]
    have ex2 : (srt ax ay bx b_y).2 = (p2x, p2y) := by rw [hp2x, hp2y]
    have ey1 : (srt cx cy dx dy).1 = (q1x, q1y) := by rw [hq1x, hq1y]
    have ey2 : (srt cx cy dx dy).2 = (q2x, q2y) := by rw [hq2x, hq2y]
    rw [ex1, ex2] at hs1
    rw [ey1, ey2] at hs2
    rw [ex1, ex2, ey1, ey2] at mr
    clear hp1x hp1y hp2x hp2y hq1x hq1y hq2x hq2y ex1 ex2 ey1 ey2
    rw [mr]
    clear mr hm
    have hB1 := bfr_any p1x p1y q1x q1y
    have hB2 := bfr_any q2x q2y p2x p2y
    cases g1 : bfr p1x p1y q1x q1y
    · rw [g1] at hB1
      cases g2 : bfr q2x q2y p2x p2y
      · rw [g2] at hB2
        have hB3 := bfr_any p1x p1y p2x p2y
        simp only [if_false, Bool.false_eq_true]
        cases g3 : bfr p1x p1y p2x p2y
        · rw [g3] at hB3
          by_cases he : p1x = p2x ∧ p1y = p2y
          · rw [if_neg (by simp), if_pos he]
            exact refMeet_l001 ax ay bx b_y cx cy dx dy p1x p1y p2x p2y q1x q1y q2x q2y _ _ hp hq hT1 hT2 z1 z2 hs1 hs2 hB1 hB2 hB3 (by simp [he.1, he.2]) w
          · rw [if_neg (by simp), if_neg he]
            exact refMeet_l000 ax ay bx b_y cx cy dx dy p1x p1y p2x p2y q1x q1y q2x q2y _ _ hp hq hT1 hT2 z1 z2 hs1 hs2 hB1 hB2 hB3 (by rw [← Bool.not_eq_true]; simpa using he) w
        · rw [g3] at hB3
          rw [if_pos rfl]
          exact refMeet_l002 ax ay bx b_y cx cy dx dy p1x p1y p2x p2y q1x q1y q2x q2y _ _ hp hq hT1 hT2 z1 z2 hs1 hs2 hB1 hB2 hB3 w
      · rw [g2] at hB2
        have hB3 := bfr_any p1x p1y q2x q2y
        simp only [if_true, if_false, Bool.false_eq_true]
        cases g3 : bfr p1x p1y q2x q2y
        · rw [g3] at hB3
          by_cases he : p1x = q2x ∧ p1y = q2y
          · rw [if_neg (by simp), if_pos he]
            exact refMeet_l011 ax ay bx b_y cx cy dx dy p1x p1y p2x p2y q1x q1y q2x q2y _ _ hp hq hT1 hT2 z1 z2 hs1 hs2 hB1 hB2 hB3 (by simp [he.1, he.2]) w
          · rw [if_neg (by simp), if_neg he]
            exact refMeet_l010 ax ay bx b_y cx cy dx dy p1x p1y p2x p2y q1x q1y q2x q2y _ _ hp hq hT1 hT2 z1 z2 hs1 hs2 hB1 hB2 hB3 (by rw [← Bool.not_eq_true]; simpa using he) w
        · rw [g3] at hB3
          rw [if_pos rfl]
          exact refMeet_l012 ax ay bx b_y cx cy dx dy p1x p1y p2x p2y q1x q1y q2x q2y _ _ hp hq hT1 hT2 z1 z2 hs1 hs2 hB1 hB2 hB3 w
    · rw [g1] at hB1
      cases g2 : bfr q2x q2y p2x p2y
      · rw [g2] at hB2
        have hB3 := bfr_any q1x q1y p2x p2y
        simp only [if_true, if_false, Bool.false_eq_true]
        cases g3 : bfr q1x q1y p2x p2y
        · rw [g3] at hB3
          by_cases he : q1x = p2x ∧ q1y = p2y
          · rw [if_neg (by simp), if_pos he]
            exact refMeet_l101 ax ay bx b_y cx cy dx dy p1x p1y p2x p2y q1x q1y q2x q2y _ _ hp hq hT1 hT2 z1 z2 hs1 hs2 hB1 hB2 hB3 (by simp [he.1, he.2]) w
          · rw [if_neg (by simp), if_neg he]
            exact refMeet_l100 ax ay bx b_y cx cy dx dy p1x p1y p2x p2y q1x q1y q2x q2y _ _ hp hq hT1 hT2 z1 z2 hs1 hs2 hB1 hB2 hB3 (by rw [← Bool.not_eq_true]; simpa using he) w
        · rw [g3] at hB3
          rw [if_pos rfl]
          exact refMeet_l102 ax ay bx b_y cx cy dx dy p1x p1y p2x p2y q1x q1y q2x q2y _ _ hp hq hT1 hT2 z1 z2 hs1 hs2 hB1 hB2 hB3 w
      · rw [g2] at hB2
        have hB3 := bfr_any q1x q1y q2x q2y
        simp only [if_true]
        cases g3 : bfr q1x q1y q2x q2y
        · rw [g3] at hB3
          by_cases he : q1x = q2x ∧ q1y = q2y
          · rw [if_neg (by simp), if_pos he]
            exact refMeet_l111 ax ay bx b_y cx cy dx dy p1x p1y p2x p2y q1x q1y q2x q2y _ _ hp hq hT1 hT2 z1 z2 hs1 hs2 hB1 hB2 hB3 (by simp [he.1, he.2]) w
          · rw [if_neg (by simp), if_neg he]
            exact refMeet_l110 ax ay bx b_y cx cy dx dy p1x p1y p2x p2y q1x q1y q2x q2y _ _ hp hq hT1 hT2 z1 z2 hs1 hs2 hB1 hB2 hB3 (by rw [← Bool.not_eq_true]; simpa using he) w
        · rw [g3] at hB3
          rw [if_pos rfl]
          exact refMeet_l112 ax ay bx b_y cx cy dx dy p1x p1y p2x p2y q1x q1y q2x q2y _ _ hp hq hT1 hT2 z1 z2 hs1 hs2 hB1 hB2 hB3 w
  · have hm : meetS ax ay bx b_y cx cy dx dy = if trn ax ay bx b_y cx cy * trn ax ay bx b_y dx dy ≤ 0 ∧ trn cx cy dx dy ax ay * trn cx cy dx dy bx b_y ≤ 0 then 1 else 0 := by
      unfold meetS; rw [if_neg (fun hh => hl ⟨hh.1, hh.2.1⟩)]
    rw [hm]
    by_cases z1 : trn ax ay bx b_y cx cy = 0
    · have z2 : (trn ax ay bx b_y dx dy == 0) = false := by
        rw [← Bool.not_eq_true, beq_iff_eq]; exact fun hh => hl ⟨z1, hh⟩
      have q1 : trn ax ay bx b_y cx cy * trn ax ay bx b_y dx dy ≤ 0 := by rw [z1]; simp
      by_cases q2 : trn cx cy dx dy ax ay * trn cx cy dx dy bx b_y ≤ 0
      · rw [if_pos ⟨q1, q2⟩]
        exact refMeet_gzn ax ay bx b_y cx cy dx dy _ _ _ _ _ _ hp hq hT1 hT2 hT3 hT4 (by simpa using z1) z2 w12 w34 (by simpa using q1) (by simpa using q2) w
      · rw [if_neg (fun hh => q2 hh.2)]
        exact refMeet_gzm ax ay bx b_y cx cy dx dy _ _ _ _ _ _ hp hq hT1 hT2 hT3 hT4 (by simpa using z1) z2 w12 w34 (by simpa using q1) (by simpa using q2) w
    · have z1' : (trn ax ay bx b_y cx cy == 0) = false := by rw [← Bool.not_eq_true, beq_iff_eq]; exact z1
      by_cases q1 : trn ax ay bx b_y cx cy * trn ax ay bx b_y dx dy ≤ 0
      · by_cases q2 : trn cx cy dx dy ax ay * trn cx cy dx dy bx b_y ≤ 0
        · rw [if_pos ⟨q1, q2⟩]
          exact refMeet_gnn ax ay bx b_y cx cy dx dy _ _ _ _ _ _ hp hq hT1 hT2 hT3 hT4 z1' w12 w34 (by simpa using q1) (by simpa using q2) w
        · rw [if_neg (fun hh => q2 hh.2)]
          exact refMeet_gnm ax ay bx b_y cx cy dx dy _ _ _ _ _ _ hp hq hT1 hT2 hT3 hT4 z1' w12 w34 (by simpa using q1) (by simpa using q2) w
      · rw [if_neg (fun hh => q1 hh.1)]
        exact refMeet_gnp ax ay bx b_y cx cy dx dy _ _ _ hp hq hT1 hT2 z1' w12 (by simpa using q1) w
theorem refMeet_in {ax ay bx b_y cx cy dx dy : Int} (h : inP4 ax ay bx b_y cx cy dx dy) (w : World) : Calls Try.prog 35 #[.agg #[.int .i64 ax, .int .i64 ay], .agg #[.int .i64 bx, .int .i64 b_y], .agg #[.int .i64 cx, .int .i64 cy], .agg #[.int .i64 dx, .int .i64 dy]] w fun e w' => e = .returned (.int .i64 (meetS ax ay bx b_y cx cy dx dy)) ∧ Below w.heap.size w w' := by
  cases hp : (ax == bx && ay == b_y)
  · cases hq : (cx == dx && cy == dy)
    · exact refMeet_ge ax ay bx b_y cx cy dx dy h hp hq w
    · exact refMeet_dg ax ay bx b_y cx cy dx dy h (.inr hq) w
  · exact refMeet_dg ax ay bx b_y cx cy dx dy h (.inl hp) w
end Go.Proofs.Ythlidkmalfjmbaa
