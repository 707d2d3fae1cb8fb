/- Plain geometry of points on a line: the order of two points, the point between two others, symmetry. No condition. -/
import Derived.Test.YthlidkmalfjmbaaRefOn
namespace Go.Proofs.Ythlidkmalfjmbaa
open Go.RowKit

def ltP (x y a b : Int) : Prop := x < a ∨ x = a ∧ y < b
def leP (x y a b : Int) : Prop := x < a ∨ x = a ∧ y ≤ b
theorem cmpP_lt {x y a b : Int} : cmpP x y a b < 0 ↔ ltP x y a b := by
  unfold cmpP orS cmpI ltP
  (repeat' split) <;> omega
theorem cmpP_gt {x y a b : Int} : cmpP x y a b > 0 ↔ ltP a b x y := by
  unfold cmpP orS cmpI ltP
  (repeat' split) <;> omega
theorem cmpP_le {x y a b : Int} : cmpP x y a b ≤ 0 ↔ leP x y a b := by
  unfold cmpP orS cmpI leP
  (repeat' split) <;> omega
theorem erl_cases (x y a b : Int) : (erl x y a b = (x, y) ∧ leP x y a b) ∨ (erl x y a b = (a, b) ∧ leP a b x y) := by
  unfold erl
  split
  · rename_i h; rw [cmpP_lt] at h; exact .inr ⟨rfl, by unfold ltP leP at *; omega⟩
  · rename_i h; rw [cmpP_lt] at h; exact .inl ⟨rfl, by unfold ltP leP at *; omega⟩
theorem ltr_cases (x y a b : Int) : (ltr x y a b = (x, y) ∧ leP a b x y) ∨ (ltr x y a b = (a, b) ∧ leP x y a b) := by
  unfold ltr
  split
  · rename_i h; rw [cmpP_gt] at h; exact .inr ⟨rfl, by unfold ltP leP at *; omega⟩
  · rename_i h; rw [cmpP_gt] at h; exact .inl ⟨rfl, by unfold ltP leP at *; omega⟩
theorem erl_self (x y : Int) : erl x y x y = (x, y) := by rcases erl_cases x y x y with h | h <;> exact h.1
theorem ltr_self (x y : Int) : ltr x y x y = (x, y) := by rcases ltr_cases x y x y with h | h <;> exact h.1
theorem erl_comm (x y a b : Int) : erl x y a b = erl a b x y := by
  rcases erl_cases x y a b with ⟨h, k⟩ | ⟨h, k⟩ <;> rcases erl_cases a b x y with ⟨h', k'⟩ | ⟨h', k'⟩ <;> rw [h, h'] <;> (unfold leP at *; ext <;> simp <;> omega)
theorem ltr_comm (x y a b : Int) : ltr x y a b = ltr a b x y := by
  rcases ltr_cases x y a b with ⟨h, k⟩ | ⟨h, k⟩ <;> rcases ltr_cases a b x y with ⟨h', k'⟩ | ⟨h', k'⟩ <;> rw [h, h'] <;> (unfold leP at *; ext <;> simp <;> omega)
theorem cmpP_ge_of {x y a b : Int} (h : leP a b x y) : 0 ≤ cmpP x y a b := by
  apply Int.not_lt.1
  rw [cmpP_lt]
  unfold leP ltP at *
  omega
theorem fin_on {x y a b : Int} {P : Prop} (h : leP a b x y) (hi : leP x y a b ↔ P) : 1 - cmpP x y a b ≤ 1 ∧ (1 - cmpP x y a b > 0 ↔ P) := by
  have h1 := cmpP_ge_of h
  have h2 : cmpP x y a b ≤ 0 ↔ leP x y a b := cmpP_le
  refine ⟨by omega, ?_⟩
  rw [← hi, ← h2]
  omega
/-- a point and a segment on one line -/
theorem mol_on (ax ay bx b_y cx cy : Int) : molS ax ay bx b_y cx cy cx cy ≤ 1 ∧
    (molS ax ay bx b_y cx cy cx cy > 0 ↔ (leP ax ay cx cy ∧ leP cx cy bx b_y ∨ leP bx b_y cx cy ∧ leP cx cy ax ay)) := by
  unfold molS
  rw [erl_self, ltr_self]
  simp only
  rcases erl_cases ax ay bx b_y with ⟨e1, k1⟩ | ⟨e1, k1⟩ <;> rcases ltr_cases ax ay bx b_y with ⟨e2, k2⟩ | ⟨e2, k2⟩ <;> rw [e1, e2] <;> simp only
  · rcases ltr_cases ax ay cx cy with ⟨e3, k3⟩ | ⟨e3, k3⟩ <;> rcases erl_cases ax ay cx cy with ⟨e4, k4⟩ | ⟨e4, k4⟩ <;> rw [e3, e4] <;> (refine fin_on ?_ ?_ <;> (unfold leP at *; omega))
  · rcases ltr_cases ax ay cx cy with ⟨e3, k3⟩ | ⟨e3, k3⟩ <;> rcases erl_cases bx b_y cx cy with ⟨e4, k4⟩ | ⟨e4, k4⟩ <;> rw [e3, e4] <;> (refine fin_on ?_ ?_ <;> (unfold leP at *; omega))
  · rcases ltr_cases bx b_y cx cy with ⟨e3, k3⟩ | ⟨e3, k3⟩ <;> rcases erl_cases ax ay cx cy with ⟨e4, k4⟩ | ⟨e4, k4⟩ <;> rw [e3, e4] <;> (refine fin_on ?_ ?_ <;> (unfold leP at *; omega))
  · rcases ltr_cases bx b_y cx cy with ⟨e3, k3⟩ | ⟨e3, k3⟩ <;> rcases erl_cases bx b_y cx cy with ⟨e4, k4⟩ | ⟨e4, k4⟩ <;> rw [e3, e4] <;> (refine fin_on ?_ ?_ <;> (unfold leP at *; omega))
theorem frac {D t u v : Int} (hD : 0 < D) (h0 : 0 ≤ t) (h1 : t ≤ D) (h : D * u = v * t) : (0 ≤ v → 0 ≤ u ∧ u ≤ v) ∧ (v ≤ 0 → v ≤ u ∧ u ≤ 0) := by
  refine ⟨fun hv => ⟨?_, ?_⟩, fun hv => ⟨?_, ?_⟩⟩
  · apply Int.not_lt.1; intro hu
    have a1 := Int.mul_neg_of_pos_of_neg hD hu
    have a2 := Int.mul_nonneg hv h0
    omega
  · apply Int.not_lt.1; intro hu
    have a1 := Int.mul_lt_mul_of_pos_left hu hD
    have a2 := Int.mul_le_mul_of_nonneg_left h1 hv
    have a3 := Int.mul_comm D v
    omega
  · apply Int.not_lt.1; intro hu
    have a1 := Int.mul_lt_mul_of_pos_left hu hD
    have a2 := Int.mul_le_mul_of_nonpos_left hv h1
    have a3 := Int.mul_comm D v
    omega
  · apply Int.not_lt.1; intro hu
    have a1 := Int.mul_pos hD hu
    have a2 := Int.mul_nonneg (a := -v) (by omega) h0
    rw [Int.neg_mul] at a2
    omega

theorem crs_swap (ax ay bx b_y cx cy : Int) : crs bx b_y ax ay cx cy = - crs ax ay bx b_y cx cy := by
  unfold crs
  simp only [Int.sub_mul, Int.mul_sub]
  have c1 := Int.mul_comm ax ay
  have c2 := Int.mul_comm bx b_y
  have c3 := Int.mul_comm ax b_y
  have c4 := Int.mul_comm ay bx
  omega
theorem crs_cyc (ax ay bx b_y cx cy : Int) : crs bx b_y cx cy ax ay = crs ax ay bx b_y cx cy := by
  unfold crs
  simp only [Int.sub_mul, Int.mul_sub]
  have c1 := Int.mul_comm ax ay
  have c2 := Int.mul_comm bx b_y
  have c3 := Int.mul_comm ax b_y
  have c4 := Int.mul_comm ay bx
  have c5 := Int.mul_comm cx cy
  have c6 := Int.mul_comm cx ay
  have c7 := Int.mul_comm cx b_y
  have c8 := Int.mul_comm cy ax
  have c9 := Int.mul_comm cy bx
  omega
theorem crs_flip (ax ay bx b_y cx cy : Int) : crs ax ay cx cy bx b_y = - crs ax ay bx b_y cx cy := by
  rw [← crs_cyc ax ay cx cy bx b_y, crs_swap bx b_y cx cy ax ay, crs_cyc]
theorem crs_same (ax ay bx b_y : Int) : crs ax ay bx b_y ax ay = 0 ∧ crs ax ay bx b_y bx b_y = 0 ∧ crs ax ay ax ay bx b_y = 0 := by
  unfold crs
  refine ⟨by simp, ?_, by simp⟩
  rw [Int.mul_comm]; omega
theorem box_lex_lt {ax ay bx b_y cx cy : Int} (hl : ax < bx) (h : crs ax ay bx b_y cx cy = 0) :
    (leP ax ay cx cy ∧ leP cx cy bx b_y) ↔ (ax ≤ cx ∧ cx ≤ bx ∧ min ay b_y ≤ cy ∧ cy ≤ max ay b_y) := by
  have he : (bx - ax) * (cy - ay) = (b_y - ay) * (cx - ax) := by unfold crs at h; omega
  constructor
  · rintro ⟨h1, h2⟩
    have hx1 : ax ≤ cx := by unfold leP at h1; omega
    have hx2 : cx ≤ bx := by unfold leP at h2; omega
    obtain ⟨f1, f2⟩ := frac (by omega) (by omega) (by omega) he
    rcases Int.le_total 0 (b_y - ay) with hv | hv
    · have := f1 hv; omega
    · have := f2 hv; omega
  · rintro ⟨h1, h2, h3, h4⟩
    constructor
    · by_cases hc : cx = ax
      · have h0 : (bx - ax) * (cy - ay) = 0 := by rw [he, hc]; simp
        rcases Int.mul_eq_zero.1 h0 with h5 | h5 <;> (unfold leP; omega)
      · unfold leP; omega
    · by_cases hc : cx = bx
      · have h0 : (bx - ax) * (cy - b_y) = 0 := by
          have : (bx - ax) * (cy - b_y) = (bx - ax) * (cy - ay) - (bx - ax) * (b_y - ay) := by rw [← Int.mul_sub]; congr 1; omega
          rw [this, he, hc, Int.mul_comm (b_y - ay)]; omega
        rcases Int.mul_eq_zero.1 h0 with h5 | h5 <;> (unfold leP; omega)
      · unfold leP; omega
theorem box_lex {ax ay bx b_y cx cy : Int} (h : crs ax ay bx b_y cx cy = 0) :
    (leP ax ay cx cy ∧ leP cx cy bx b_y ∨ leP bx b_y cx cy ∧ leP cx cy ax ay) ↔ (min ax bx ≤ cx ∧ cx ≤ max ax bx ∧ min ay b_y ≤ cy ∧ cy ≤ max ay b_y) := by
  rcases Int.lt_trichotomy ax bx with hl | hl | hl
  · have h1 := box_lex_lt hl h
    have h2 : ¬ (leP bx b_y cx cy ∧ leP cx cy ax ay) := by unfold leP; omega
    rw [show min ax bx = ax by omega, show max ax bx = bx by omega]
    constructor
    · rintro (hh | hh)
      · exact h1.1 hh
      · exact absurd hh h2
    · exact fun hh => .inl (h1.2 hh)
  · subst hl
    unfold leP
    omega
  · have h' : crs bx b_y ax ay cx cy = 0 := by rw [crs_swap, h]; rfl
    have h1 := box_lex_lt hl h'
    have h2 : ¬ (leP ax ay cx cy ∧ leP cx cy bx b_y) := by unfold leP; omega
    rw [show min ax bx = bx by omega, show max ax bx = ax by omega, Int.min_comm, Int.max_comm]
    constructor
    · rintro (hh | hh)
      · exact absurd hh h2
      · exact h1.1 hh
    · exact fun hh => .inr (h1.2 hh)

/-- two points in range, and so on -/
def inP3 (ax ay bx b_y cx cy : Int) : Prop := (inC ax = true ∧ inC ay = true) ∧ (inC bx = true ∧ inC b_y = true) ∧ (inC cx = true ∧ inC cy = true)
theorem trn_eq {ax ay bx b_y cx cy : Int} (h : inP3 ax ay bx b_y cx cy) : trn ax ay bx b_y cx cy = sgnI (crs ax ay bx b_y cx cy) := (trn_in h.1.1 h.1.2 h.2.1.1 h.2.1.2 h.2.2.1 h.2.2.2).1
theorem ref_eq {ax ay bx b_y cx cy : Int} (h : inP3 ax ay bx b_y cx cy) : sgnI (wrap64 (lft ax ay bx cy - rgt ax ay b_y cx)) = sgnI (crs ax ay bx b_y cx cy) := (trn_in h.1.1 h.1.2 h.2.1.1 h.2.1.2 h.2.2.1 h.2.2.2).2
theorem sgnI_zero {n : Int} : sgnI n = 0 ↔ n = 0 := by unfold sgnI; (repeat' split) <;> omega
theorem sgnI_neg {n : Int} : sgnI (-n) = - sgnI n := by unfold sgnI; (repeat' split) <;> omega
theorem sgnI_sq {n : Int} (h : n ≠ 0) : sgnI n * sgnI n = 1 := by unfold sgnI; (repeat' split) <;> omega
/-- On: what meet says of a segment and a point is what the reference's On says -/
theorem on_eq {ax ay bx b_y cx cy : Int} (h : inP3 ax ay bx b_y cx cy) : decide (meetS ax ay bx b_y cx cy cx cy > 0) = onB ax ay bx b_y cx cy ∧ meetS ax ay bx b_y cx cy cx cy ≤ 1 ∧ 0 ≤ meetS ax ay bx b_y cx cy cx cy := by
  have e1 := trn_eq h
  have e3 : trn cx cy cx cy ax ay = 0 := by rw [trn_eq ⟨h.2.2, h.2.2, h.1⟩, (crs_same cx cy ax ay).2.2]; rfl
  have e4 : trn cx cy cx cy bx b_y = 0 := by rw [trn_eq ⟨h.2.2, h.2.2, h.2.1⟩, (crs_same cx cy bx b_y).2.2]; rfl
  unfold meetS onB
  rw [ref_eq h, e1, e3, e4]
  by_cases hz : crs ax ay bx b_y cx cy = 0
  · obtain ⟨m1, m2⟩ := mol_on ax ay bx b_y cx cy
    rw [box_lex hz] at m2
    have hs : sgnI (crs ax ay bx b_y cx cy) = 0 := sgnI_zero.2 hz
    rw [hs, if_pos (by simp)]
    refine ⟨?_, m1, ?_⟩
    · rw [Bool.eq_iff_iff]
      simp only [Bool.and_eq_true, decide_eq_true_eq]
      rw [m2]
      simp only [true_and, and_assoc]
    · have := cmpP_bd (ltr (erl ax ay bx b_y).1 (erl ax ay bx b_y).2 (erl cx cy cx cy).1 (erl cx cy cx cy).2).1 (ltr (erl ax ay bx b_y).1 (erl ax ay bx b_y).2 (erl cx cy cx cy).1 (erl cx cy cx cy).2).2 (erl (ltr ax ay bx b_y).1 (ltr ax ay bx b_y).2 (ltr cx cy cx cy).1 (ltr cx cy cx cy).2).1 (erl (ltr ax ay bx b_y).1 (ltr ax ay bx b_y).2 (ltr cx cy cx cy).1 (ltr cx cy cx cy).2).2
      unfold molS
      omega
  · have hs : sgnI (crs ax ay bx b_y cx cy) ≠ 0 := fun h => hz (sgnI_zero.1 h)
    have hq := sgnI_sq hz
    generalize sgnI (crs ax ay bx b_y cx cy) = s at *
    rw [if_neg (by rintro ⟨h, _⟩; exact hs h), if_neg (by rintro ⟨h, _⟩; omega)]
    refine ⟨?_, by omega, by omega⟩
    simp [hs]
end Go.Proofs.Ythlidkmalfjmbaa
