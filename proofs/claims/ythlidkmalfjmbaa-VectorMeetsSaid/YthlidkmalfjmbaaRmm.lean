/- The walks of the reference's before and sorted; plain mathematics of the reference's Meet. No condition. -/
import Derived.Test.YthlidkmalfjmbaaSegs
namespace Go.Proofs.Ythlidkmalfjmbaa
open Go.RowKit

theorem Blk.zz {W : World} {g : Nat} {t : TypeId} {p q : Value} (h : Blk W g t #[p, q]) : W.cell? ⟨g, 0, none⟩ = some p ∧ W.cell? ⟨g, 1, none⟩ = some q ∧ (∀ i, W.frozen? ⟨g, i, none⟩ = false) := ⟨h.cell 0, h.cell 1, h.frozen⟩
def bfr (x y a b : Int) : Bool := decide (x < a) || (decide (x = a) && decide (y < b))
theorem bfr_lt {x y a b : Int} : bfr x y a b = true ↔ ltP x y a b := by unfold bfr ltP; simp
set_option maxHeartbeats 1000000 in
theorem bfr_any (x y a b : Int) (w : World) :
    Calls Try.prog 52 #[.agg #[.int .i64 x, .int .i64 y], .agg #[.int .i64 a, .int .i64 b]] w fun e w' => e = .returned (.bool (bfr x y a b)) ∧ Below w.heap.size w w' := by
  obtain ⟨B, hB⟩ : ∃ B, B = bfr x y a b := ⟨_, rfl⟩
  rw [← hB]
  have HB := Lib.hid hB
  clear hB
  go_enter Try.func52, Try.ntmps52
  go_wp2
  all_goals
    go_ret
    refine ⟨ret_bool ?_, ?_⟩
    · have := HB.out
      rw [this, Bool.eq_iff_iff]
      simp only [bfr, Bool.or_eq_true, Bool.and_eq_true, decide_eq_true_eq, true_iff]
      omega
    · repeat (first | exact Below.refl _ _ | refine Below.drew ?_ | refine below_drewN ?_ _ | refine Below.setCell ?_ ?_ _ | refine Below.alloc ?_ ?_ _ | (refine Below.trans ?_ (bmono (by assumption) ?_)))
      all_goals (first | omega | (simp <;> omega))
def srt (x y a b : Int) : (Int × Int) × (Int × Int) := if bfr a b x y then ((a, b), (x, y)) else ((x, y), (a, b))
set_option maxHeartbeats 2000000 in
theorem srt_any (x y a b : Int) (w : World) :
    Calls Try.prog 51 #[.agg #[.int .i64 x, .int .i64 y], .agg #[.int .i64 a, .int .i64 b]] w fun e w' => e = .returned (.tuple #[.agg #[.int .i64 (srt x y a b).1.1, .int .i64 (srt x y a b).1.2], .agg #[.int .i64 (srt x y a b).2.1, .int .i64 (srt x y a b).2.2]]) ∧ Below w.heap.size w w' := by
  have hc := bfr_any a b x y
  cases h : bfr a b x y
  · rw [h] at hc
    rw [show srt x y a b = ((x, y), (a, b)) by simp [srt, h]]
    clear h
    go_enter Try.func51, Try.ntmps51
    go_upto_region 3 with (go_at_call 52; refine (hc _).mono ?_; rintro e w1 ⟨rfl, hb1⟩; obtain ⟨hc1, hf1⟩ := bcell hb1; have hz1 := hb1.size; (try simp at hz1); (try have y10 : w.heap.size < w1.heap.size := (by omega)); (try have y11 : w.heap.size + 1 < w1.heap.size := (by omega)); (try have y12 : w.heap.size + 1 + 1 < w1.heap.size := (by omega)); (try have y13 : w.heap.size + 1 + 1 + 1 < w1.heap.size := (by omega)); (try have y14 : w.heap.size + 1 + 1 + 1 + 1 < w1.heap.size := (by omega)))
    have z2 : Blk w1 (w.heap.size + 1 + 1) 46 #[.int .i64 0, .int .i64 0] := Blk.below (Blk.alloc (Blk.new2 (by simp)) _) hb1 (by simp)
    have z3 : Blk w1 (w.heap.size + 1 + 1 + 1) 46 #[.int .i64 0, .int .i64 0] := Blk.below (Blk.new2 (by simp)) hb1 (by simp)
    have z0 : Blk w1 w.heap.size 46 #[.int .i64 x, .int .i64 y] := Blk.below (Blk.alloc (Blk.alloc (Blk.alloc (Blk.new2 rfl) _) _) _) hb1 (by simp <;> omega)
    have z1 : Blk w1 (w.heap.size + 1) 46 #[.int .i64 a, .int .i64 b] := Blk.below (Blk.alloc (Blk.alloc (Blk.new2 (by simp)) _) _) hb1 (by simp <;> omega)
    obtain ⟨a1, a2, a3⟩ := Blk.zz z0
    obtain ⟨b1, b2, b3⟩ := Blk.zz z1
    obtain ⟨c1, c2, c3⟩ := Blk.zz z2
    obtain ⟨d1, d2, d3⟩ := Blk.zz z3
    go_region
    go_wp2
    exact bodyPost_ret (v := .tuple #[.agg #[.int .i64 x, .int .i64 y], .agg #[.int .i64 a, .int .i64 b]]) (by simp [results, Try.results51, go_sem, c1, c2, d1, d2]) rfl ⟨rfl, by
      repeat (first | exact Below.refl _ _ | refine Below.drew ?_ | refine below_drewN ?_ _ | refine Below.setCell ?_ ?_ _ | refine Below.alloc ?_ ?_ _ | (refine Below.trans ?_ (bmono (by assumption) ?_)))
      all_goals (first | omega | (simp <;> omega))⟩
  · rw [h] at hc
    rw [show srt x y a b = ((a, b), (x, y)) by simp [srt, h]]
    clear h
    go_enter Try.func51, Try.ntmps51
    go_upto_region 2 with (go_at_call 52; refine (hc _).mono ?_; rintro e w1 ⟨rfl, hb1⟩; obtain ⟨hc1, hf1⟩ := bcell hb1; have hz1 := hb1.size; (try simp at hz1); (try have y10 : w.heap.size < w1.heap.size := (by omega)); (try have y11 : w.heap.size + 1 < w1.heap.size := (by omega)); (try have y12 : w.heap.size + 1 + 1 < w1.heap.size := (by omega)); (try have y13 : w.heap.size + 1 + 1 + 1 < w1.heap.size := (by omega)); (try have y14 : w.heap.size + 1 + 1 + 1 + 1 < w1.heap.size := (by omega)))
    have z2 : Blk w1 (w.heap.size + 1 + 1) 46 #[.int .i64 0, .int .i64 0] := Blk.below (Blk.alloc (Blk.new2 (by simp)) _) hb1 (by simp)
    have z3 : Blk w1 (w.heap.size + 1 + 1 + 1) 46 #[.int .i64 0, .int .i64 0] := Blk.below (Blk.new2 (by simp)) hb1 (by simp)
    have z0 : Blk w1 w.heap.size 46 #[.int .i64 x, .int .i64 y] := Blk.below (Blk.alloc (Blk.alloc (Blk.alloc (Blk.new2 rfl) _) _) _) hb1 (by simp <;> omega)
    have z1 : Blk w1 (w.heap.size + 1) 46 #[.int .i64 a, .int .i64 b] := Blk.below (Blk.alloc (Blk.alloc (Blk.new2 (by simp)) _) _) hb1 (by simp <;> omega)
    obtain ⟨a1, a2, a3⟩ := Blk.zz z0
    obtain ⟨b1, b2, b3⟩ := Blk.zz z1
    obtain ⟨c1, c2, c3⟩ := Blk.zz z2
    obtain ⟨d1, d2, d3⟩ := Blk.zz z3
    go_region
    go_wp2
    exact bodyPost_ret (v := .tuple #[.agg #[.int .i64 a, .int .i64 b], .agg #[.int .i64 x, .int .i64 y]]) (by simp [results, Try.results51, go_sem, c1, c2, d1, d2]) rfl ⟨rfl, by
      repeat (first | exact Below.refl _ _ | refine Below.drew ?_ | refine below_drewN ?_ _ | refine Below.setCell ?_ ?_ _ | refine Below.alloc ?_ ?_ _ | (refine Below.trans ?_ (bmono (by assumption) ?_)))
      all_goals (first | omega | (simp <;> omega))⟩

theorem srt_eq (x y a b : Int) : srt x y a b = (erl x y a b, ltr x y a b) := by
  unfold srt
  rcases erl_cases x y a b with ⟨e1, k1⟩ | ⟨e1, k1⟩ <;> rcases ltr_cases x y a b with ⟨e2, k2⟩ | ⟨e2, k2⟩ <;> rw [e1, e2] <;> split <;> rename_i h <;> (try rw [bfr_lt] at h) <;> (unfold leP ltP at *; ext <;> simp <;> omega)
theorem mol_comm3 (ax ay bx b_y cx cy dx dy : Int) : molS cx cy dx dy ax ay bx b_y = molS ax ay bx b_y cx cy dx dy := by
  unfold molS
  rw [ltr_comm (erl cx cy dx dy).1, erl_comm (ltr cx cy dx dy).1]
section
variable {ax ay bx b_y cx cy dx dy : Int}
theorem deg_comm (ha : inC ax = true ∧ inC ay = true) (hc : inC cx = true ∧ inC cy = true) (hd : inC dx = true ∧ inC dy = true) : meetS ax ay ax ay cx cy dx dy = meetS cx cy dx dy ax ay ax ay := by
  unfold meetS
  rw [mol_comm3 ax ay ax ay cx cy dx dy, trn_eq ⟨ha, ha, hc⟩, trn_eq ⟨ha, ha, hd⟩, (crs_same ax ay cx cy).2.2, (crs_same ax ay dx dy).2.2]
  generalize trn cx cy dx dy ax ay = t
  congr 1
  · rw [eq_iff_iff]
    have : sgnI 0 = 0 := rfl
    omega
  · congr 1
    rw [eq_iff_iff]; exact ⟨fun h => ⟨h.2, h.1⟩, fun h => ⟨h.2, h.1⟩⟩
theorem one_of {m : Int} {o : Bool} (h : decide (m > 0) = o ∧ m ≤ 1 ∧ 0 ≤ m) : m = if o then 1 else 0 := by
  obtain ⟨rfl, h2, h3⟩ := h
  by_cases hm : m > 0
  · rw [if_pos (by simpa using hm)]; omega
  · rw [if_neg (by simpa using hm)]; omega
theorem deg1 (ha : inC ax = true ∧ inC ay = true) (hc : inC cx = true ∧ inC cy = true) (hd : inC dx = true ∧ inC dy = true) : meetS ax ay ax ay cx cy dx dy = if onB cx cy dx dy ax ay then 1 else 0 := by
  rw [deg_comm ha hc hd]
  exact one_of (on_eq ⟨hc, hd, ha⟩)
theorem deg2 (ha : inC ax = true ∧ inC ay = true) (hb : inC bx = true ∧ inC b_y = true) (hc : inC cx = true ∧ inC cy = true) : meetS ax ay bx b_y cx cy cx cy = if onB ax ay bx b_y cx cy then 1 else 0 :=
  one_of (on_eq ⟨ha, hb, hc⟩)
theorem on_pts (ha : inC ax = true ∧ inC ay = true) (hc : inC cx = true ∧ inC cy = true) : onB cx cy cx cy ax ay = onB ax ay ax ay cx cy := by
  unfold onB
  rw [ref_eq ⟨hc, hc, ha⟩, ref_eq ⟨ha, ha, hc⟩, (crs_same cx cy ax ay).2.2, (crs_same ax ay cx cy).2.2, Bool.eq_iff_iff]
  simp only [Bool.and_eq_true, decide_eq_true_eq]
  have : sgnI 0 = 0 := rfl
  rw [this]
  simp only [true_and]
  omega
theorem par (h1 : crs ax ay bx b_y cx cy = 0) (h2 : crs ax ay bx b_y dx dy = 0) (hne : ¬ (ax = bx ∧ ay = b_y)) : crs cx cy dx dy ax ay = 0 := by
  have e : crs cx cy dx dy ax ay = (cx - ax) * (dy - ay) - (cy - ay) * (dx - ax) := by rw [crs_cyc ax ay cx cy dx dy]; rfl
  have e1 : (bx - ax) * (cy - ay) = (b_y - ay) * (cx - ax) := by unfold crs at h1; omega
  have e2 : (bx - ax) * (dy - ay) = (b_y - ay) * (dx - ax) := by unfold crs at h2; omega
  rw [e]
  have hz : ¬ (bx - ax = 0 ∧ b_y - ay = 0) := by
    rintro ⟨hd, he⟩
    exact hne ⟨by omega, by omega⟩
  generalize bx - ax = D at e1 e2 hz
  generalize b_y - ay = E at e1 e2 hz
  generalize cx - ax = p at e1 ⊢
  generalize cy - ay = q at e1 ⊢
  generalize dx - ax = r at e2 ⊢
  generalize dy - ay = s at e2 ⊢
  have g1 : D * (p * s - q * r) = 0 := by grind
  have g2 : E * (p * s - q * r) = 0 := by grind
  rcases Int.mul_eq_zero.1 g1 with h | h
  · rcases Int.mul_eq_zero.1 g2 with h' | h'
    · exact absurd ⟨h, h'⟩ hz
    · exact h'
  · exact h
theorem mol_ref (ax ay bx b_y cx cy dx dy : Int) (lo hi : Int × Int)
    (hlo : lo = if bfr (srt ax ay bx b_y).1.1 (srt ax ay bx b_y).1.2 (srt cx cy dx dy).1.1 (srt cx cy dx dy).1.2 then (srt cx cy dx dy).1 else (srt ax ay bx b_y).1)
    (hhi : hi = if bfr (srt cx cy dx dy).2.1 (srt cx cy dx dy).2.2 (srt ax ay bx b_y).2.1 (srt ax ay bx b_y).2.2 then (srt cx cy dx dy).2 else (srt ax ay bx b_y).2) :
    molS ax ay bx b_y cx cy dx dy = if bfr lo.1 lo.2 hi.1 hi.2 then 2 else if lo.1 = hi.1 ∧ lo.2 = hi.2 then 1 else 0 := by
  rw [srt_eq, srt_eq] at hlo hhi
  simp only at hlo hhi
  have e1 : lo = ltr (erl ax ay bx b_y).1 (erl ax ay bx b_y).2 (erl cx cy dx dy).1 (erl cx cy dx dy).2 := by
    rw [hlo]; unfold ltr
    by_cases hb : ltP (erl ax ay bx b_y).1 (erl ax ay bx b_y).2 (erl cx cy dx dy).1 (erl cx cy dx dy).2
    · rw [if_pos (bfr_lt.2 hb), if_pos (cmpP_gt.2 hb)]
    · rw [if_neg (fun h => hb (bfr_lt.1 h)), if_neg (fun h => hb (cmpP_gt.1 h))]
  have e2 : hi = erl (ltr ax ay bx b_y).1 (ltr ax ay bx b_y).2 (ltr cx cy dx dy).1 (ltr cx cy dx dy).2 := by
    rw [hhi]; unfold erl
    by_cases hb : ltP (ltr cx cy dx dy).1 (ltr cx cy dx dy).2 (ltr ax ay bx b_y).1 (ltr ax ay bx b_y).2
    · rw [if_pos (bfr_lt.2 hb), if_pos (cmpP_lt.2 hb)]
    · rw [if_neg (fun h => hb (bfr_lt.1 h)), if_neg (fun h => hb (cmpP_lt.1 h))]
  unfold molS
  rw [← e1, ← e2]
  have hbd := cmpP_bd lo.1 lo.2 hi.1 hi.2
  have hl := @cmpP_lt lo.1 lo.2 hi.1 hi.2
  have hg := @cmpP_gt lo.1 lo.2 hi.1 hi.2
  by_cases hb : ltP lo.1 lo.2 hi.1 hi.2
  · rw [if_pos (bfr_lt.2 hb)]
    have := hl.2 hb
    omega
  · rw [if_neg (fun h => hb (bfr_lt.1 h))]
    by_cases he : lo.1 = hi.1 ∧ lo.2 = hi.2
    · rw [if_pos he, he.1, he.2]
      simp [cmpP, orS, cmpI]
    · rw [if_neg he]
      have : ltP hi.1 hi.2 lo.1 lo.2 := by unfold ltP at *; omega
      have := hg.2 this
      omega
end
end Go.Proofs.Ythlidkmalfjmbaa
