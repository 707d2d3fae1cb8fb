/- The walks of plane's, box's and their references' small functions. No condition but that divisors are positive. -/
import Derived.Test.YtogmgaaejepcbaaVec
namespace Go.Proofs.Ytogmgaaejepcbaa
open Go.RowKit

set_option maxHeartbeats 400000 in
theorem bcoords_any (x y z : Int) (w : World) :
    Calls Try.prog 59 #[.agg #[.int .i64 x, .int .i64 y, .int .i64 z]] w fun e w' => e = .returned (.agg #[.int .i64 x, .int .i64 y, .int .i64 z]) ∧ Below w.heap.size w w' := by
  go_enter Try.func59, Try.ntmps59
  go_wp2
  exact bodyPost_ret (v := .agg #[.int .i64 x, .int .i64 y, .int .i64 z]) (by simp [results, Try.results59, go_sem]) rfl ⟨rfl, by
    repeat (first | exact Below.refl _ _ | refine Below.drew ?_ | refine below_drewN ?_ _ | refine Below.setCell ?_ ?_ _ | refine Below.alloc ?_ ?_ _ | (refine Below.trans ?_ (bmono (by assumption) ?_)))
    all_goals (first | omega | (simp <;> omega))⟩
def inF (n : Int) : Bool := decide (-1000 ≤ n) && decide (n ≤ 1000)
theorem inF_iff {n : Int} : inF n = true ↔ (-1000 ≤ n ∧ n ≤ 1000) := by simp [inF]
theorem inF_no {n : Int} : inF n = false ↔ (n < -1000 ∨ 1000 < n) := by rw [← Bool.not_eq_true, inF_iff]; omega
theorem inF_C {n : Int} (h : inF n = true) : inC n = true := inC_iff.2 (by have := inF_iff.1 h; omega)
set_option maxHeartbeats 400000 in
theorem inr_any (n : Int) (w : World) :
    Calls Try.prog 60 #[.int .i64 n] w fun e w' => e = .returned (.bool (inC n)) ∧ w = w' := by
  go_enter Try.func60, Try.ntmps60
  go_wp2
  all_goals (go_ret; exact ⟨ret_bool (by unfold inC; simp <;> omega), rfl⟩)

def empB (x y z p q r : Int) : Bool := decide (p ≤ x) || (decide (q ≤ y) || decide (r ≤ z))
theorem empB_iff {x y z p q r : Int} : empB x y z p q r = true ↔ (p ≤ x ∨ q ≤ y ∨ r ≤ z) := by simp [empB]
theorem empB_no {x y z p q r : Int} : empB x y z p q r = false ↔ (x < p ∧ y < q ∧ z < r) := by rw [← Bool.not_eq_true, empB_iff]; omega
set_option maxHeartbeats 1000000 in
theorem empty_any (x y z p q r : Int) (w : World) :
    Calls Try.prog 61 #[.agg #[.int .i64 x, .int .i64 y, .int .i64 z, .int .i64 p, .int .i64 q, .int .i64 r]] w fun e w' => e = .returned (.bool (empB x y z p q r)) ∧ Below w.heap.size w w' := by
  go_enter Try.func61, Try.ntmps61
  go_wp2
  all_goals (go_ret; exact ⟨ret_bool (by rw [Bool.eq_iff_iff, empB_iff]; simp <;> omega), (Below.refl _ _).alloc (Nat.le_refl _) _⟩)

theorem tdiv_fl {n d : Int} (hd : 0 < d) : (n.tmod d < 0 → n.tdiv d - 1 = n / d) ∧ (¬ n.tmod d < 0 → n.tdiv d = n / d) := by
  have h1 := Int.mul_tdiv_add_tmod n d
  have h2 := Int.tmod_lt_of_pos n hd
  have h3 : -d < n.tmod d := by
    have h4 := Int.natAbs_tmod n d
    have h5 := Nat.mod_lt n.natAbs (y := d.natAbs) (by omega)
    omega
  constructor
  · intro h
    exact ((Int.ediv_emod_unique hd (r := n.tmod d + d)).2 ⟨by rw [Int.mul_sub, Int.mul_one]; omega, by omega, by omega⟩).1.symm
  · intro h
    exact ((Int.ediv_emod_unique hd (r := n.tmod d)).2 ⟨by omega, by omega, by omega⟩).1.symm
theorem tdiv_bd {n : Int} (d : Int) {B : Nat} (h : n.natAbs ≤ B) : (n.tdiv d).natAbs ≤ B := by
  rw [Int.natAbs_tdiv]; exact Nat.le_trans (Nat.div_le_self _ _) h
set_option maxHeartbeats 1000000 in
theorem at_any (x y z k : Int) (w : World) :
    Calls Try.prog 54 #[.agg #[.int .i64 x, .int .i64 y, .int .i64 z], .int .i64 k] w fun e w' => e = .returned (.int .i64 (if k = 0 then x else if k = 1 then y else z)) ∧ Below w.heap.size w w' := by
  by_cases h0 : k = 0
  · subst h0
    go_enter Try.func54, Try.ntmps54
    go_wp2
    go_ret
    exact ⟨rfl, (Below.refl _ _).alloc (Nat.le_refl _) _⟩
  · by_cases h1 : k = 1
    · subst h1
      go_enter Try.func54, Try.ntmps54
      go_wp2
      go_ret
      exact ⟨rfl, (Below.refl _ _).alloc (Nat.le_refl _) _⟩
    · have e0 : (k == 0) = false := by simpa using h0
      have e1 : (k == 1) = false := by simpa using h1
      rw [if_neg h0, if_neg h1]
      go_enter Try.func54, Try.ntmps54
      go_wp2
      go_ret
      exact ⟨rfl, (Below.refl _ _).alloc (Nat.le_refl _) _⟩
end Go.Proofs.Ytogmgaaejepcbaa
