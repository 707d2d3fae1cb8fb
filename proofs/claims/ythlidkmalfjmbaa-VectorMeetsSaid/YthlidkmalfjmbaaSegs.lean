/- The law VectorSegments: it answers true, whatever the four points; and the claim. -/
import Derived.Test.YthlidkmalfjmbaaAwk
import Derived.Test.YthlidkmalfjmbaaGeo
import Derived.Test.YthlidkmalfjmbaaLift
namespace Go.Proofs.Ythlidkmalfjmbaa
open Go.ChangeShapes Go.WideShapes Go.ChangeAt Go.RowKit

theorem mol_comm (ax ay bx b_y cx cy dx dy : Int) : molS dx dy cx cy ax ay bx b_y = molS ax ay bx b_y cx cy dx dy := by
  unfold molS
  rw [erl_comm dx dy cx cy, ltr_comm dx dy cx cy, ltr_comm (erl cx cy dx dy).1, erl_comm (ltr cx cy dx dy).1]
theorem mol_comm2 (ax ay bx b_y cx cy dx dy : Int) : molS bx b_y ax ay dx dy cx cy = molS ax ay bx b_y cx cy dx dy := by
  unfold molS
  rw [erl_comm dx dy cx cy, ltr_comm dx dy cx cy, erl_comm bx b_y ax ay, ltr_comm bx b_y ax ay]
theorem mol_self (ax ay bx b_y : Int) : molS ax ay bx b_y ax ay bx b_y = if ax = bx ∧ ay = b_y then 1 else 2 := by
  unfold molS
  rw [ltr_self, erl_self]
  simp only
  rcases erl_cases ax ay bx b_y with ⟨e1, k1⟩ | ⟨e1, k1⟩ <;> rcases ltr_cases ax ay bx b_y with ⟨e2, k2⟩ | ⟨e2, k2⟩ <;> rw [e1, e2] <;> simp only
  all_goals
    split
    · rename_i h
      obtain ⟨rfl, rfl⟩ := h
      simp [cmpP, orS, cmpI]
    · rename_i h
      first
      | (have hl : ltP ax ay bx b_y := by unfold leP ltP at *; omega
         have h1 := cmpP_lt.2 hl
         have h2 := cmpP_bd ax ay bx b_y
         omega)
      | (have hl : ltP bx b_y ax ay := by unfold leP ltP at *; omega
         have h1 := cmpP_lt.2 hl
         have h2 := cmpP_bd bx b_y ax ay
         omega)
      | (exfalso; unfold leP at *; omega)

def inP4 (ax ay bx b_y cx cy dx dy : Int) : Prop := (inC ax = true ∧ inC ay = true) ∧ (inC bx = true ∧ inC b_y = true) ∧ (inC cx = true ∧ inC cy = true) ∧ (inC dx = true ∧ inC dy = true)
section
variable {ax ay bx b_y cx cy dx dy : Int}
theorem trn_swap (h : inP3 ax ay bx b_y cx cy) : trn bx b_y ax ay cx cy = - trn ax ay bx b_y cx cy := by
  rw [trn_eq h, trn_eq ⟨h.2.1, h.1, h.2.2⟩, crs_swap, sgnI_neg]
theorem trn_flip (h : inP3 ax ay bx b_y cx cy) : trn ax ay cx cy bx b_y = - trn ax ay bx b_y cx cy := by
  rw [trn_eq h, trn_eq ⟨h.1, h.2.2, h.2.1⟩, crs_flip, sgnI_neg]
theorem trn_cyc (h : inP3 ax ay bx b_y cx cy) : trn bx b_y cx cy ax ay = trn ax ay bx b_y cx cy := by
  rw [trn_eq h, trn_eq ⟨h.2.1, h.2.2, h.1⟩, crs_cyc]
theorem meet_comm (h : inP4 ax ay bx b_y cx cy dx dy) : meetS dx dy cx cy ax ay bx b_y = meetS ax ay bx b_y cx cy dx dy := by
  obtain ⟨ha, hb, hc, hd⟩ := h
  unfold meetS
  rw [mol_comm, trn_swap ⟨hc, hd, ha⟩, trn_swap ⟨hc, hd, hb⟩]
  generalize trn ax ay bx b_y cx cy = t1
  generalize trn ax ay bx b_y dx dy = t2
  generalize trn cx cy dx dy ax ay = t3
  generalize trn cx cy dx dy bx b_y = t4
  rw [Int.neg_mul_neg, Int.mul_comm t2 t1]
  congr 1
  · rw [eq_iff_iff]; omega
  · congr 1
    rw [eq_iff_iff]; exact ⟨fun h => ⟨h.2, h.1⟩, fun h => ⟨h.2, h.1⟩⟩
theorem meet_comm2 (h : inP4 ax ay bx b_y cx cy dx dy) : meetS bx b_y ax ay dx dy cx cy = meetS ax ay bx b_y cx cy dx dy := by
  obtain ⟨ha, hb, hc, hd⟩ := h
  unfold meetS
  rw [mol_comm2, trn_swap ⟨ha, hb, hc⟩, trn_swap ⟨ha, hb, hd⟩, trn_swap ⟨hc, hd, ha⟩, trn_swap ⟨hc, hd, hb⟩]
  generalize trn ax ay bx b_y cx cy = t1
  generalize trn ax ay bx b_y dx dy = t2
  generalize trn cx cy dx dy ax ay = t3
  generalize trn cx cy dx dy bx b_y = t4
  rw [Int.neg_mul_neg, Int.neg_mul_neg, Int.mul_comm t2 t1, Int.mul_comm t4 t3]
  congr 1
  rw [eq_iff_iff]; omega
theorem meet_self (ha : inC ax = true ∧ inC ay = true) (hb : inC bx = true ∧ inC b_y = true) : meetS ax ay bx b_y ax ay bx b_y = if ax = bx ∧ ay = b_y then 1 else 2 := by
  unfold meetS
  rw [trn_eq ⟨ha, hb, ha⟩, trn_eq ⟨ha, hb, hb⟩, (crs_same ax ay bx b_y).1, (crs_same ax ay bx b_y).2.1, mol_self]
  simp [sgnI]
theorem eqP (x y a b : Int) (w : World) : Sem.run Try.prog (binOp .eql 46 (.agg #[.int .i64 x, .int .i64 y]) (.agg #[.int .i64 a, .int .i64 b])) w = .ok (.bool (x == a && y == b)) w := by
  have u3 := Try.underlying3
  have a3 := Try.isAgg3
  have z3 := Try.sizeOf3
  have hS : Try.prog.underlying 46 = some (.struct (Try.prog.fieldsOf 46)) := by kernel_rfl
  have hp : Try.prog.stoodInHeld 46 = false := by kernel_rfl
  rw [run_eql_struct, show (10000 : Nat) = 9999 + 1 from rfl, run_equalIn_agg w 9999 46 _ _ hS hp]
  simp only [Program.fieldsOf, Try.underlying46]
  go_simp
  by_cases h1 : x = a <;> by_cases h2 : y = b <;> simp [h1, h2]
theorem neP (x y a b : Int) (w : World) : Sem.run Try.prog (binOp .neq 46 (.agg #[.int .i64 x, .int .i64 y]) (.agg #[.int .i64 a, .int .i64 b])) w = .ok (.bool (!(x == a && y == b))) w := by
  have u3 := Try.underlying3
  have a3 := Try.isAgg3
  have z3 := Try.sizeOf3
  have hS : Try.prog.underlying 46 = some (.struct (Try.prog.fieldsOf 46)) := by kernel_rfl
  have hp : Try.prog.stoodInHeld 46 = false := by kernel_rfl
  rw [run_neq_struct, show (10000 : Nat) = 9999 + 1 from rfl, run_equalIn_agg w 9999 46 _ _ hS hp]
  simp only [Program.fieldsOf, Try.underlying46]
  go_simp
  by_cases h1 : x = a <;> by_cases h2 : y = b <;> simp [h1, h2]
end
def tnR (l : List (Int × Int)) (v : Int) : Int × Int := if errP l = 0 then (v, 0) else (0, 6)
def onR (l : List (Int × Int)) (v : Bool) : Bool × Int := if errP l = 0 then (v, 0) else (false, 6)
theorem Turn_all (ax ay bx b_y cx cy : Int) (w : World) :
    Calls Try.prog 29 #[.agg #[.int .i64 ax, .int .i64 ay], .agg #[.int .i64 bx, .int .i64 b_y], .agg #[.int .i64 cx, .int .i64 cy]] w fun e w' => e = .returned (.tuple #[.int .i64 (tnR [(ax, ay), (bx, b_y), (cx, cy)] (trn ax ay bx b_y cx cy)).1, .int .i64 (tnR [(ax, ay), (bx, b_y), (cx, cy)] (trn ax ay bx b_y cx cy)).2]) ∧ Below w.heap.size w w' := by
  rcases errP_or [(ax, ay), (bx, b_y), (cx, cy)] with h | h
  · rw [show tnR [(ax, ay), (bx, b_y), (cx, cy)] (trn ax ay bx b_y cx cy) = (trn ax ay bx b_y cx cy, 0) by simp [tnR, h]]
    exact Turn_ok ax ay bx b_y cx cy h w
  · rw [show tnR [(ax, ay), (bx, b_y), (cx, cy)] (trn ax ay bx b_y cx cy) = (0, 6) by simp [tnR, h]]
    exact Turn_bad ax ay bx b_y cx cy h w
theorem On_all (ax ay bx b_y cx cy : Int) (w : World) :
    Calls Try.prog 30 #[.agg #[.int .i64 ax, .int .i64 ay], .agg #[.int .i64 bx, .int .i64 b_y], .agg #[.int .i64 cx, .int .i64 cy]] w fun e w' => e = .returned (.tuple #[.bool (onR [(ax, ay), (bx, b_y), (cx, cy)] (decide (meetS ax ay bx b_y cx cy cx cy > 0))).1, .int .i64 (onR [(ax, ay), (bx, b_y), (cx, cy)] (decide (meetS ax ay bx b_y cx cy cx cy > 0))).2]) ∧ Below w.heap.size w w' := by
  rcases errP_or [(ax, ay), (bx, b_y), (cx, cy)] with h | h
  · rw [show onR [(ax, ay), (bx, b_y), (cx, cy)] (decide (meetS ax ay bx b_y cx cy cx cy > 0)) = (decide (meetS ax ay bx b_y cx cy cx cy > 0), 0) by simp [onR, h]]
    exact On_ok ax ay bx b_y cx cy h w
  · rw [show onR [(ax, ay), (bx, b_y), (cx, cy)] (decide (meetS ax ay bx b_y cx cy cx cy > 0)) = (false, 6) by simp [onR, h]]
    exact On_bad ax ay bx b_y cx cy h w
theorem Meet_all (ax ay bx b_y cx cy dx dy : Int) (w : World) :
    Calls Try.prog 34 #[.agg #[.int .i64 ax, .int .i64 ay], .agg #[.int .i64 bx, .int .i64 b_y], .agg #[.int .i64 cx, .int .i64 cy], .agg #[.int .i64 dx, .int .i64 dy]] w fun e w' => e = .returned (.tuple #[.int .i64 (tnR [(ax, ay), (bx, b_y), (cx, cy), (dx, dy)] (meetS ax ay bx b_y cx cy dx dy)).1, .int .i64 (tnR [(ax, ay), (bx, b_y), (cx, cy), (dx, dy)] (meetS ax ay bx b_y cx cy dx dy)).2]) ∧ Below w.heap.size w w' := by
  rcases errP_or [(ax, ay), (bx, b_y), (cx, cy), (dx, dy)] with h | h
  · rw [show tnR [(ax, ay), (bx, b_y), (cx, cy), (dx, dy)] (meetS ax ay bx b_y cx cy dx dy) = (meetS ax ay bx b_y cx cy dx dy, 0) by simp [tnR, h]]
    exact Meet_ok ax ay bx b_y cx cy dx dy h w
  · rw [show tnR [(ax, ay), (bx, b_y), (cx, cy), (dx, dy)] (meetS ax ay bx b_y cx cy dx dy) = (0, 6) by simp [tnR, h]]
    exact Meet_bad ax ay bx b_y cx cy dx dy h w

theorem in3 {ax ay bx b_y cx cy : Int} : errP [(ax, ay), (bx, b_y), (cx, cy)] = 0 ↔ inP3 ax ay bx b_y cx cy := by
  unfold inP3 errP
  simp [inP, and_assoc]
theorem in4 {ax ay bx b_y cx cy dx dy : Int} : errP [(ax, ay), (bx, b_y), (cx, cy), (dx, dy)] = 0 ↔ inP4 ax ay bx b_y cx cy dx dy := by
  unfold inP4 errP
  simp [inP, and_assoc]
theorem tn_bd {l : List (Int × Int)} {ax ay bx b_y cx cy : Int} : -1 ≤ (tnR l (trn ax ay bx b_y cx cy)).1 ∧ (tnR l (trn ax ay bx b_y cx cy)).1 ≤ 1 := by
  have := cmpI_bd (lft ax ay bx cy) (rgt ax ay b_y cx)
  unfold tnR trn
  split <;> simp <;> omega
theorem f_flip (ax ay bx b_y cx cy : Int) : tnR [(ax, ay), (cx, cy), (bx, b_y)] (trn ax ay cx cy bx b_y) = (-(tnR [(ax, ay), (bx, b_y), (cx, cy)] (trn ax ay bx b_y cx cy)).1, (tnR [(ax, ay), (bx, b_y), (cx, cy)] (trn ax ay bx b_y cx cy)).2) := by
  unfold tnR
  by_cases h : inP3 ax ay bx b_y cx cy
  · rw [if_pos (in3.2 h), if_pos (in3.2 ⟨h.1, h.2.2, h.2.1⟩), trn_flip h]
  · rw [if_neg (fun hh => h (in3.1 hh)), if_neg (fun hh => h ⟨(in3.1 hh).1, (in3.1 hh).2.2, (in3.1 hh).2.1⟩)]; rfl
theorem f_cyc (ax ay bx b_y cx cy : Int) : tnR [(bx, b_y), (cx, cy), (ax, ay)] (trn bx b_y cx cy ax ay) = tnR [(ax, ay), (bx, b_y), (cx, cy)] (trn ax ay bx b_y cx cy) := by
  unfold tnR
  by_cases h : inP3 ax ay bx b_y cx cy
  · rw [if_pos (in3.2 h), if_pos (in3.2 ⟨h.2.1, h.2.2, h.1⟩), trn_cyc h]
  · rw [if_neg (fun hh => h (in3.1 hh)), if_neg (fun hh => h ⟨(in3.1 hh).2.2, (in3.1 hh).1, (in3.1 hh).2.1⟩)]
theorem f_on (ax ay bx b_y cx cy : Int) : onR [(ax, ay), (bx, b_y), (cx, cy)] (decide (meetS ax ay bx b_y cx cy cx cy > 0)) =
    (decide ((tnR [(ax, ay), (bx, b_y), (cx, cy), (cx, cy)] (meetS ax ay bx b_y cx cy cx cy)).1 = 1), (tnR [(ax, ay), (bx, b_y), (cx, cy), (cx, cy)] (meetS ax ay bx b_y cx cy cx cy)).2) := by
  unfold tnR onR
  by_cases h : inP3 ax ay bx b_y cx cy
  · rw [if_pos (in3.2 h), if_pos (in4.2 ⟨h.1, h.2.1, h.2.2, h.2.2⟩)]
    have := (on_eq h).2
    congr 1
    rw [decide_eq_decide]
    omega
  · rw [if_neg (fun hh => h (in3.1 hh)), if_neg (fun hh => h ⟨(in4.1 hh).1, (in4.1 hh).2.1, (in4.1 hh).2.2.1⟩)]; rfl
theorem f_m1 (ax ay bx b_y cx cy dx dy : Int) : tnR [(dx, dy), (cx, cy), (ax, ay), (bx, b_y)] (meetS dx dy cx cy ax ay bx b_y) = tnR [(ax, ay), (bx, b_y), (cx, cy), (dx, dy)] (meetS ax ay bx b_y cx cy dx dy) := by
  unfold tnR
  by_cases h : inP4 ax ay bx b_y cx cy dx dy
  · rw [if_pos (in4.2 h), if_pos (in4.2 ⟨h.2.2.2, h.2.2.1, h.1, h.2.1⟩), meet_comm h]
  · rw [if_neg (fun hh => h (in4.1 hh)), if_neg (fun hh => h ⟨(in4.1 hh).2.2.1, (in4.1 hh).2.2.2, (in4.1 hh).2.1, (in4.1 hh).1⟩)]
theorem f_m2 (ax ay bx b_y cx cy dx dy : Int) : tnR [(bx, b_y), (ax, ay), (dx, dy), (cx, cy)] (meetS bx b_y ax ay dx dy cx cy) = tnR [(ax, ay), (bx, b_y), (cx, cy), (dx, dy)] (meetS ax ay bx b_y cx cy dx dy) := by
  unfold tnR
  by_cases h : inP4 ax ay bx b_y cx cy dx dy
  · rw [if_pos (in4.2 h), if_pos (in4.2 ⟨h.2.1, h.1, h.2.2.2, h.2.2.1⟩), meet_comm2 h]
  · rw [if_neg (fun hh => h (in4.1 hh)), if_neg (fun hh => h ⟨(in4.1 hh).2.1, (in4.1 hh).1, (in4.1 hh).2.2.2, (in4.1 hh).2.2.1⟩)]
theorem f_self (ax ay bx b_y : Int) : tnR [(ax, ay), (bx, b_y), (ax, ay), (bx, b_y)] (meetS ax ay bx b_y ax ay bx b_y) = (0, 6) ∨
    tnR [(ax, ay), (bx, b_y), (ax, ay), (bx, b_y)] (meetS ax ay bx b_y ax ay bx b_y) = (1, 0) ∧ (ax == bx && ay == b_y) = true ∨
    tnR [(ax, ay), (bx, b_y), (ax, ay), (bx, b_y)] (meetS ax ay bx b_y ax ay bx b_y) = (2, 0) ∧ (ax == bx && ay == b_y) = false := by
  unfold tnR
  by_cases h : inP4 ax ay bx b_y ax ay bx b_y
  · rw [if_pos (in4.2 h), meet_self h.1 h.2.1]
    by_cases he : ax = bx ∧ ay = b_y
    · rw [if_pos he]; exact .inr (.inl ⟨rfl, by simpa using he⟩)
    · rw [if_neg he]; exact .inr (.inr ⟨rfl, by rw [Bool.eq_false_iff]; simpa using he⟩)
  · rw [if_neg (fun hh => h (in4.1 hh))]; exact .inl rfl
end Go.Proofs.Ythlidkmalfjmbaa
