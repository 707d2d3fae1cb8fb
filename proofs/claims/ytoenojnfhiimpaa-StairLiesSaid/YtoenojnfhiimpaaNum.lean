/- Numbers of rules and flights, and the walks of stair's and the reference's smallest functions. No condition. -/
import Derived.Test.YtoenojnfhiimpaaApb
import Derived.Lib.Hide
import Derived.Test.YtoenojnfhiimpaaProg
namespace Go.Proofs.Ytoenojnfhiimpaa
open Go.RowKit

def inB (n a b : Int) : Bool := decide (a ≤ n) && decide (n ≤ b)
theorem inB_iff {n a b : Int} : inB n a b = true ↔ (a ≤ n ∧ n ≤ b) := by simp [inB]
theorem inB_no {n a b : Int} : inB n a b = false ↔ (n < a ∨ b < n) := by rw [← Bool.not_eq_true, inB_iff]; omega
def outB (p q m : Int) : Bool := !(inB p 1 m && inB q 1 m)
theorem outB_no {p q m : Int} : outB p q m = false ↔ (1 ≤ p ∧ p ≤ m ∧ 1 ≤ q ∧ q ≤ m) := by simp [outB, inB]; omega
theorem outB_iff {p q m : Int} : outB p q m = true ↔ (p < 1 ∨ m < p ∨ q < 1 ∨ m < q) := by rw [← Bool.not_eq_false, outB_no]; omega
/-- the error of a rule -/
def chkE (a b c d e f : Int) : Int :=
  if (outB a b 10000 || (outB c d 10000 || outB e f 30000)) = true then 6 else if b < a ∨ d < c ∨ f < e then 1 else 0
/-- a valid flight -/
def vldB (n r x g w l : Int) : Bool := inB n 1 64 && (inB r 1 10000 && (inB g 1 10000 && (inB w 1 10000 && (inB x 0 (n - 1) && (inB l 0 1000 && decide (l < g))))))
theorem vldB_iff {n r x g w l : Int} : vldB n r x g w l = true ↔ (1 ≤ n ∧ n ≤ 64 ∧ 1 ≤ r ∧ r ≤ 10000 ∧ 1 ≤ g ∧ g ≤ 10000 ∧ 1 ≤ w ∧ w ≤ 10000 ∧ 0 ≤ x ∧ x ≤ n - 1 ∧ 0 ≤ l ∧ l ≤ 1000 ∧ l < g) := by
  simp [vldB, inB]; omega
/-- the rise of a step -/
def rsI (r x i : Int) : Int := if i < x then r + 1 else r
/-- the level above k steps -/
def lvl (r x : Int) : Nat → Int
  | 0 => 0
  | k + 1 => lvl r x k + rsI r x k
theorem rsI_bd {r x i : Int} (h1 : 1 ≤ r) (h2 : r ≤ 10000) : 1 ≤ rsI r x i ∧ rsI r x i ≤ 10001 := by unfold rsI; split <;> omega
theorem lvl_bd {r x : Int} (h1 : 1 ≤ r) (h2 : r ≤ 10000) : ∀ k : Nat, 0 ≤ lvl r x k ∧ lvl r x k ≤ 10001 * (k : Int)
  | 0 => by simp [lvl]
  | k + 1 => by
    obtain ⟨a, b⟩ := lvl_bd h1 h2 (r := r) (x := x) k
    obtain ⟨c, d⟩ := rsI_bd (x := x) (i := k) h1 h2
    show 0 ≤ lvl r x k + rsI r x k ∧ lvl r x k + rsI r x k ≤ 10001 * ((k + 1 : Nat) : Int)
    omega
theorem lvl_eq {r x : Int} (hx : 0 ≤ x) : ∀ k : Nat, lvl r x k = (k : Int) * r + (if (k : Int) < x then (k : Int) else x)
  | 0 => by simp [lvl]; omega
  | k + 1 => by
    show lvl r x k + rsI r x k = _
    rw [lvl_eq hx k, show ((k + 1 : Nat) : Int) = (k : Int) + 1 by omega, Int.add_mul, Int.one_mul]
    unfold rsI
    split <;> split <;> omega

set_option maxHeartbeats 400000 in
theorem isIn_any (n a b : Int) (w : World) :
    Calls Try.prog 39 #[.int .i64 n, .int .i64 a, .int .i64 b] w fun e w' => e = .returned (.bool (inB n a b)) ∧ w = w' := by
  go_enter Try.func39, Try.ntmps39
  go_wp2
  all_goals (go_ret; exact ⟨ret_bool (by unfold inB; simp <;> omega), rfl⟩)
set_option maxHeartbeats 400000 in
theorem rin_any (n a b : Int) (w : World) :
    Calls Try.prog 32 #[.int .i64 n, .int .i64 a, .int .i64 b] w fun e w' => e = .returned (.bool (inB n a b)) ∧ w = w' := by
  go_enter Try.func32, Try.ntmps32
  go_wp2
  all_goals (go_ret; exact ⟨ret_bool (by unfold inB; simp <;> omega), rfl⟩)
set_option maxHeartbeats 400000 in
theorem within_any (n a b : Int) (w : World) :
    Calls Try.prog 36 #[.int .i64 n, .agg #[.int .i64 a, .int .i64 b]] w fun e w' => e = .returned (.bool (inB n a b)) ∧ Below w.heap.size w w' := by
  go_enter Try.func36, Try.ntmps36
  go_wp2
  all_goals (go_ret; exact ⟨ret_bool (by unfold inB; simp <;> omega), (Below.refl _ _).alloc (Nat.le_refl _) _⟩)
set_option maxHeartbeats 400000 in
theorem isSide_any (n : Int) (w : World) :
    Calls Try.prog 42 #[.int .i64 n] w fun e w' => e = .returned (.bool (inB n 1 10000)) ∧ w = w' := by
  go_enter Try.func42, Try.ntmps42
  go_wp2_with (go_at_call 39; refine (isIn_any _ _ _ _).mono ?_; rintro e w1 ⟨rfl, rfl⟩)
  go_ret
  exact ⟨rfl, rfl⟩
set_option maxHeartbeats 1000000 in
theorem isOutside_any (p q m : Int) (w : World) :
    Calls Try.prog 31 #[.agg #[.int .i64 p, .int .i64 q], .int .i64 m] w fun e w' => e = .returned (.bool (outB p q m)) ∧ Below w.heap.size w w' := by
  go_enter Try.func31, Try.ntmps31
  go_wp2
  all_goals (go_ret; exact ⟨ret_bool (by rw [Bool.eq_iff_iff, outB_iff]; simp <;> omega), (Below.refl _ _).alloc (Nat.le_refl _) _⟩)
set_option maxHeartbeats 1000000 in
theorem rise_any (n r x g wd l i : Int) (w : World) (h1 : 1 ≤ r) (h2 : r ≤ 10000) :
    Calls Try.prog 43 #[.agg #[.int .i64 n, .int .i64 r, .int .i64 x, .int .i64 g, .int .i64 wd, .int .i64 l], .int .i64 i] w fun e w' => e = .returned (.int .i64 (rsI r x i)) ∧ Below w.heap.size w w' := by
  go_enter Try.func43, Try.ntmps43
  go_wp2
  all_goals (go_ret; refine ⟨ret_int (by unfold rsI; simp_all <;> omega), (Below.refl _ _).alloc (Nat.le_refl _) _⟩)
set_option maxHeartbeats 1000000 in
theorem rrise_any (n r x g wd l i : Int) (w : World) (h1 : 1 ≤ r) (h2 : r ≤ 10000) :
    Calls Try.prog 40 #[.agg #[.int .i64 n, .int .i64 r, .int .i64 x, .int .i64 g, .int .i64 wd, .int .i64 l], .int .i64 i] w fun e w' => e = .returned (.int .i64 (rsI r x i)) ∧ Below w.heap.size w w' := by
  go_enter Try.func40, Try.ntmps40
  go_wp2
  all_goals (go_ret; refine ⟨ret_int (by unfold rsI; simp_all <;> omega), (Below.refl _ _).alloc (Nat.le_refl _) _⟩)
set_option maxHeartbeats 1000000 in
theorem grise_any (n r x g wd l : Int) (w : World) (h1 : 1 ≤ r) (h2 : r ≤ 10000) :
    Calls Try.prog 35 #[.agg #[.int .i64 n, .int .i64 r, .int .i64 x, .int .i64 g, .int .i64 wd, .int .i64 l]] w fun e w' => e = .returned (.int .i64 (rsI r x 0)) ∧ Below w.heap.size w w' := by
  go_enter Try.func35, Try.ntmps35
  go_wp2_with (go_at_call 43; refine (rise_any _ _ _ _ _ _ _ _ h1 h2).mono ?_; rintro e w1 ⟨rfl, hb1⟩)
  go_ret
  exact ⟨rfl, ((Below.refl _ _).alloc (Nat.le_refl _) _).trans (bmono hb1 (by simp <;> omega))⟩
end Go.Proofs.Ytoenojnfhiimpaa
