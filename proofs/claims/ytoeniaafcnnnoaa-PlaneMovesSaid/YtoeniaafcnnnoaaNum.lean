/- The walks of vector's and the reference's small functions: coordinates, Check, cmp.Compare. No condition. -/
import Derived.Test.YtoeniaafcnnnoaaProg
import Derived.Test.YtoeniaafcnnnoaaKit
import Derived.WalkKit
import Derived.WalkSpells
import Derived.WalkLawsBesides
import Derived.Deep.QuietTactic
import Derived.BigQuiet
import Derived.Laws.StructEq
import Derived.Lib.Hide
namespace Go.Proofs.Ytoeniaafcnnnoaa
open Go.RowKit

def inC (n : Int) : Bool := decide (-1000000 ≤ n) && decide (n ≤ 1000000)
theorem inC_iff {n : Int} : inC n = true ↔ (-1000000 ≤ n ∧ n ≤ 1000000) := by simp [inC]
def inV (x y z : Int) : Bool := inC x && inC y && inC z
theorem inV_iff {x y z : Int} : inV x y z = true ↔ (inC x = true ∧ inC y = true ∧ inC z = true) := by simp [inV, and_assoc]
def eV (x y z : Int) : Int := if inV x y z then 0 else 6

set_option maxHeartbeats 400000 in
theorem coords_any (x y z : Int) (w : World) :
    Calls Try.prog 70 #[.agg #[.int .i64 x, .int .i64 y, .int .i64 z]] w fun e w' => e = .returned (.agg #[.int .i64 x, .int .i64 y, .int .i64 z]) ∧ Below w.heap.size w w' := by
  go_enter Try.func70, Try.ntmps70
  go_wp2
  exact bodyPost_ret (v := .agg #[.int .i64 x, .int .i64 y, .int .i64 z]) (by simp [results, Try.results70, go_sem]) rfl ⟨rfl, by
    repeat (first | exact Below.refl _ _ | refine Below.drew ?_ | refine Below.setCell ?_ ?_ _ | refine Below.alloc ?_ ?_ _)
    all_goals (simp <;> omega)⟩

set_option maxHeartbeats 400000 in
theorem vec_any (x y z : Int) (w : World) :
    Calls Try.prog 73 #[.agg #[.int .i64 x, .int .i64 y, .int .i64 z]] w fun e w' => e = .returned (.agg #[.int .i64 x, .int .i64 y, .int .i64 z]) ∧ Below w.heap.size w w' := by
  go_enter Try.func73, Try.ntmps73
  go_wp2
  exact bodyPost_ret (v := .agg #[.int .i64 x, .int .i64 y, .int .i64 z]) (by simp [results, Try.results73, go_sem]) rfl ⟨rfl, by
    repeat (first | exact Below.refl _ _ | refine Below.drew ?_ | refine Below.setCell ?_ ?_ _ | refine Below.alloc ?_ ?_ _)
    all_goals (simp <;> omega)⟩

set_option maxHeartbeats 400000 in
theorem in_any (n : Int) (w : World) :
    Calls Try.prog 46 #[.int .i64 n] w fun e w' => e = .returned (.bool (inC n)) ∧ w = w' := by
  go_enter Try.func46, Try.ntmps46
  go_wp2
  all_goals (go_ret; exact ⟨ret_bool (by unfold inC; simp <;> omega), rfl⟩)
set_option maxHeartbeats 400000 in
theorem nan_any (n : Int) (w : World) :
    Calls Try.prog 89 #[.int .i64 n] w fun e w' => e = .returned (.bool false) ∧ w = w' := by
  go_enter Try.func89, Try.ntmps89
  go_wp2
  all_goals (go_ret; exact ⟨ret_bool (by simp), rfl⟩)
set_option maxHeartbeats 400000 in
theorem nan2_any (n : Int) (w : World) :
    Calls Try.prog 88 #[.int .i64 n] w fun e w' => e = .returned (.bool false) ∧ w = w' := by
  go_enter Try.func88, Try.ntmps88
  go_wp2
  all_goals (go_ret; exact ⟨ret_bool (by simp), rfl⟩)

def cmpI (a b : Int) : Int := if a < b then -1 else if b < a then 1 else 0
set_option maxHeartbeats 400000 in
theorem cmp_any (a b : Int) (w : World) :
    Calls Try.prog 81 #[.int .i64 a, .int .i64 b] w fun e w' => e = .returned (.int .i64 (cmpI a b)) ∧ w = w' := by
  go_enter Try.func81, Try.ntmps81
  go_wp2_with (go_at_call 89; refine (nan_any _ _).mono ?_; rintro e w' ⟨rfl, rfl⟩)
  all_goals (go_ret; exact ⟨ret_int (by unfold cmpI; (repeat' split) <;> omega), rfl⟩)
set_option maxHeartbeats 400000 in
theorem cmp2_any (a b : Int) (w : World) :
    Calls Try.prog 80 #[.int .i64 a, .int .i64 b] w fun e w' => e = .returned (.int .i64 (cmpI a b)) ∧ w = w' := by
  go_enter Try.func80, Try.ntmps80
  go_wp2_with (go_at_call 88; refine (nan2_any _ _).mono ?_; rintro e w' ⟨rfl, rfl⟩)
  all_goals (go_ret; exact ⟨ret_int (by unfold cmpI; (repeat' split) <;> omega), rfl⟩)

set_option maxHeartbeats 400000 in
theorem refIn_any (x y z : Int) (w : World) :
    Calls Try.prog 21 #[.agg #[.int .i64 x, .int .i64 y, .int .i64 z]] w fun e w' => e = .returned (.bool (inV x y z)) ∧ Below w.heap.size w w' := by
  go_enter Try.func21, Try.ntmps21
  go_wp2_with (go_at_call 46; refine (in_any _ _).mono ?_; rintro e w' ⟨rfl, rfl⟩)
  all_goals (go_ret; exact ⟨ret_bool (by simp_all [inV]), (Below.refl _ _).alloc (Nat.le_refl _) _⟩)

def lessV (x y z a b c : Int) : Bool := if x = a then (if y = b then decide (z < c) else decide (y < b)) else decide (x < a)
def cmpV (x y z a b c : Int) : Int := if lessV x y z a b c then -1 else if lessV a b c x y z then 1 else 0
theorem eV_0 {x y z : Int} (hx : inC x = true) (hy : inC y = true) (hz : inC z = true) : eV x y z = 0 := by simp [eV, inV, hx, hy, hz]
theorem eV_x {x y z : Int} (h : inC x = false) : eV x y z = 6 := by simp [eV, inV, h]
theorem eV_y {x y z : Int} (h : inC y = false) : eV x y z = 6 := by simp [eV, inV, h]
theorem eV_z {x y z : Int} (h : inC z = false) : eV x y z = 6 := by simp [eV, inV, h]
theorem inC_lo {n : Int} (h : n < -1000000) : inC n = false := by simp [inC]; omega
theorem inC_hi {n : Int} (h : 1000000 < n) : inC n = false := by simp [inC]; omega

set_option maxHeartbeats 1000000 in
theorem check_any (x y z : Int) (w : World) :
    Calls Try.prog 71 #[.agg #[.int .i64 x, .int .i64 y, .int .i64 z]] w fun e w' => e = .returned (.int .i64 (eV x y z)) ∧ Below w.heap.size w w' := by
  go_enter Try.func71, Try.ntmps71
  go_wp2_with (go_at_call 70; refine (coords_any _ _ _ _).mono ?_; rintro e w' ⟨rfl, hb1⟩)
  have hbw : Below w.heap.size w w' := ((Below.refl _ _).alloc (Nat.le_refl _) _).trans (bmono hb1 (by simp))
  clear hb1
  have i0 : ∀ w, (Instr.index 85 (.agg #[.int .i64 x, .int .i64 y, .int .i64 z]) (.int .i64 0)).run Try.prog w = .ok (.int .i64 x) w := fun _ => by kernel_rfl
  have i1 : ∀ w, (Instr.index 85 (.agg #[.int .i64 x, .int .i64 y, .int .i64 z]) (.int .i64 1)).run Try.prog w = .ok (.int .i64 y) w := fun _ => by kernel_rfl
  have i2 : ∀ w, (Instr.index 85 (.agg #[.int .i64 x, .int .i64 y, .int .i64 z]) (.int .i64 2)).run Try.prog w = .ok (.int .i64 z) w := fun _ => by kernel_rfl
  go_loopw [7] (fun i wr => wr = w' ∧ (i = .int .i64 0 ∨ (i = .int .i64 1 ∧ inC x = true) ∨ (i = .int .i64 2 ∧ inC x = true ∧ inC y = true) ∨ (i = .int .i64 3 ∧ inC x = true ∧ inC y = true ∧ inC z = true))) (fun i _ => 3 - (intOf i).toNat)
  case atStart => exact ⟨rfl, .inl rfl⟩
  case round =>
    obtain ⟨rfl, rfl | ⟨rfl, hx⟩ | ⟨rfl, hx, hy⟩ | ⟨rfl, hx, hy, hz⟩⟩ := hrel
    · by_cases h1 : x < -1000000
      · go_wp2
        go_ret
        exact ⟨ret_int (eV_x (inC_lo h1)).symm, hbw⟩
      · by_cases h2 : 1000000 < x
        · go_wp2
          go_ret
          exact ⟨ret_int (eV_x (inC_hi h2)).symm, hbw⟩
        · go_wp2
          go_roundw
          case rel => exact ⟨by trivial, .inr (.inl ⟨by go_num, inC_iff.2 (by omega)⟩)⟩
          case measure => simp [intOf] <;> omega
    · by_cases h1 : y < -1000000
      · go_wp2
        go_ret
        exact ⟨ret_int (eV_y (inC_lo h1)).symm, hbw⟩
      · by_cases h2 : 1000000 < y
        · go_wp2
          go_ret
          exact ⟨ret_int (eV_y (inC_hi h2)).symm, hbw⟩
        · go_wp2
          go_roundw
          case rel => exact ⟨by trivial, .inr (.inr (.inl ⟨by go_num, hx, inC_iff.2 (by omega)⟩))⟩
          case measure => simp [intOf] <;> omega
    · by_cases h1 : z < -1000000
      · go_wp2
        go_ret
        exact ⟨ret_int (eV_z (inC_lo h1)).symm, hbw⟩
      · by_cases h2 : 1000000 < z
        · go_wp2
          go_ret
          exact ⟨ret_int (eV_z (inC_hi h2)).symm, hbw⟩
        · go_wp2
          go_roundw
          case rel => exact ⟨by trivial, .inr (.inr (.inr ⟨by go_num, hx, hy, inC_iff.2 (by omega)⟩))⟩
          case measure => simp [intOf] <;> omega
    · go_wp2
      go_ret
      exact ⟨ret_int (eV_0 hx hy hz).symm, hbw⟩
end Go.Proofs.Ytoeniaafcnnnoaa
