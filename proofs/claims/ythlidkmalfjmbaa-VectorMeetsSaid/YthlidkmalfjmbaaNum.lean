/- The walks of vector's and the reference's small functions: coordinates, Check, cmp.Compare. No condition. -/
import Derived.Test.YthlidkmalfjmbaaProg
import Derived.Test.YthlidkmalfjmbaaKit
import Derived.WalkKit
import Derived.WalkSpells
import Derived.WalkLawsBesides
import Derived.Deep.QuietTactic
import Derived.BigQuiet
import Derived.Laws.StructEq
import Derived.Lib.Hide
namespace Go.Proofs.Ythlidkmalfjmbaa
open Go.RowKit

def inC (n : Int) : Bool := decide (-1000000 ≤ n) && decide (n ≤ 1000000)
theorem inC_iff {n : Int} : inC n = true ↔ (-1000000 ≤ n ∧ n ≤ 1000000) := by simp [inC]
def inV (x y z : Int) : Bool := inC x && inC y && inC z
theorem inV_iff {x y z : Int} : inV x y z = true ↔ (inC x = true ∧ inC y = true ∧ inC z = true) := by simp [inV, and_assoc]
def eV (x y z : Int) : Int := if inV x y z then 0 else 6

set_option maxHeartbeats 400000 in
theorem coords_any (x y z : Int) (w : World) :
    Calls Try.prog 39 #[.agg #[.int .i64 x, .int .i64 y, .int .i64 z]] w fun e w' => e = .returned (.agg #[.int .i64 x, .int .i64 y, .int .i64 z]) ∧ Below w.heap.size w w' := by
  go_enter Try.func39, Try.ntmps39
  go_wp2
  exact bodyPost_ret (v := .agg #[.int .i64 x, .int .i64 y, .int .i64 z]) (by simp [results, Try.results39, go_sem]) rfl ⟨rfl, by
    repeat (first | exact Below.refl _ _ | refine Below.drew ?_ | refine Below.setCell ?_ ?_ _ | refine Below.alloc ?_ ?_ _)
    all_goals (simp <;> omega)⟩

set_option maxHeartbeats 400000 in
theorem vec_any (x y z : Int) (w : World) :
    Calls Try.prog 45 #[.agg #[.int .i64 x, .int .i64 y, .int .i64 z]] w fun e w' => e = .returned (.agg #[.int .i64 x, .int .i64 y, .int .i64 z]) ∧ Below w.heap.size w w' := by
  go_enter Try.func45, Try.ntmps45
  go_wp2
  exact bodyPost_ret (v := .agg #[.int .i64 x, .int .i64 y, .int .i64 z]) (by simp [results, Try.results45, go_sem]) rfl ⟨rfl, by
    repeat (first | exact Below.refl _ _ | refine Below.drew ?_ | refine Below.setCell ?_ ?_ _ | refine Below.alloc ?_ ?_ _)
    all_goals (simp <;> omega)⟩

set_option maxHeartbeats 400000 in
theorem in_any (n : Int) (w : World) :
    Calls Try.prog 40 #[.int .i64 n] w fun e w' => e = .returned (.bool (inC n)) ∧ w = w' := by
  go_enter Try.func40, Try.ntmps40
  go_wp2
  all_goals (go_ret; exact ⟨ret_bool (by unfold inC; simp <;> omega), rfl⟩)
set_option maxHeartbeats 400000 in
theorem nan_any (n : Int) (w : World) :
    Calls Try.prog 56 #[.int .i64 n] w fun e w' => e = .returned (.bool false) ∧ w = w' := by
  go_enter Try.func56, Try.ntmps56
  go_wp2
  all_goals (go_ret; exact ⟨ret_bool (by simp), rfl⟩)
set_option maxHeartbeats 400000 in
theorem nan2_any (n : Int) (w : World) :
    Calls Try.prog 57 #[.int .i64 n] w fun e w' => e = .returned (.bool false) ∧ w = w' := by
  go_enter Try.func57, Try.ntmps57
  go_wp2
  all_goals (go_ret; exact ⟨ret_bool (by simp), rfl⟩)

def cmpI (a b : Int) : Int := if a < b then -1 else if b < a then 1 else 0
set_option maxHeartbeats 400000 in
theorem cmp_any (a b : Int) (w : World) :
    Calls Try.prog 53 #[.int .i64 a, .int .i64 b] w fun e w' => e = .returned (.int .i64 (cmpI a b)) ∧ w = w' := by
  go_enter Try.func53, Try.ntmps53
  go_wp2_with (go_at_call 56; refine (nan_any _ _).mono ?_; rintro e w' ⟨rfl, rfl⟩)
  all_goals (go_ret; exact ⟨ret_int (by unfold cmpI; (repeat' split) <;> omega), rfl⟩)
set_option maxHeartbeats 400000 in
theorem cmp2_any (a b : Int) (w : World) :
    Calls Try.prog 54 #[.int .i64 a, .int .i64 b] w fun e w' => e = .returned (.int .i64 (cmpI a b)) ∧ w = w' := by
  go_enter Try.func54, Try.ntmps54
  go_wp2_with (go_at_call 57; refine (nan2_any _ _).mono ?_; rintro e w' ⟨rfl, rfl⟩)
  all_goals (go_ret; exact ⟨ret_int (by unfold cmpI; (repeat' split) <;> omega), rfl⟩)

set_option maxHeartbeats 400000 in
theorem refIn_any (x y z : Int) (w : World) :
    Calls Try.prog 16 #[.agg #[.int .i64 x, .int .i64 y, .int .i64 z]] w fun e w' => e = .returned (.bool (inV x y z)) ∧ Below w.heap.size w w' := by
  go_enter Try.func16, Try.ntmps16
  go_wp2_with (go_at_call 40; refine (in_any _ _).mono ?_; rintro e w' ⟨rfl, rfl⟩)
  all_goals (go_ret; exact ⟨ret_bool (by simp_all [inV]), (Below.refl _ _).alloc (Nat.le_refl _) _⟩)

def lessV (x y z a b c : Int) : Bool := if x = a then (if y = b then decide (z < c) else decide (y < b)) else decide (x < a)
set_option maxHeartbeats 400000 in
theorem less_any (x y z a b c : Int) (w : World) :
    Calls Try.prog 42 #[.agg #[.int .i64 x, .int .i64 y, .int .i64 z], .agg #[.int .i64 a, .int .i64 b, .int .i64 c]] w fun e w' => e = .returned (.bool (lessV x y z a b c)) ∧ Below w.heap.size w w' := by
  go_enter Try.func42, Try.ntmps42
  go_wp2
  all_goals (go_ret; exact ⟨ret_bool (by simp_all [lessV]), ((Below.refl _ _).alloc (Nat.le_refl _) _).alloc (by simp) _⟩)

def cmpV (x y z a b c : Int) : Int := if lessV x y z a b c then -1 else if lessV a b c x y z then 1 else 0
set_option maxHeartbeats 400000 in
theorem refCmp_any (x y z a b c : Int) (w : World) :
    Calls Try.prog 18 #[.agg #[.int .i64 x, .int .i64 y, .int .i64 z], .agg #[.int .i64 a, .int .i64 b, .int .i64 c]] w fun e w' => e = .returned (.int .i64 (cmpV x y z a b c)) ∧ Below w.heap.size w w' := by
  have hc : cmpV x y z a b c = if lessV x y z a b c then -1 else if lessV a b c x y z then 1 else 0 := rfl
  go_enter Try.func18, Try.ntmps18
  go_wp2_with (go_at_call 42; refine (less_any _ _ _ _ _ _ _).mono ?_; rintro e w1 ⟨rfl, hb1⟩; obtain ⟨hc1, hf1⟩ := bcell hb1; try have hz1 : w.heap.size + 2 ≤ w1.heap.size := (by have := hb1.size; simp at this; omega))
  all_goals go_ret
  all_goals (refine ⟨ret_int (by rw [hc]; simp_all), ?_⟩)
  all_goals (repeat (first | exact Below.refl _ _ | refine Below.alloc ?_ ?_ _ | (refine Below.trans ?_ (bmono (by assumption) ?_))))
  all_goals (first | omega | (simp <;> omega))

theorem eV_0 {x y z : Int} (hx : inC x = true) (hy : inC y = true) (hz : inC z = true) : eV x y z = 0 := by simp [eV, inV, hx, hy, hz]
theorem eV_x {x y z : Int} (h : inC x = false) : eV x y z = 6 := by simp [eV, inV, h]
theorem eV_y {x y z : Int} (h : inC y = false) : eV x y z = 6 := by simp [eV, inV, h]
theorem eV_z {x y z : Int} (h : inC z = false) : eV x y z = 6 := by simp [eV, inV, h]
theorem inC_lo {n : Int} (h : n < -1000000) : inC n = false := by simp [inC]; omega
theorem inC_hi {n : Int} (h : 1000000 < n) : inC n = false := by simp [inC]; omega

set_option maxHeartbeats 1000000 in
theorem check_any (x y z : Int) (w : World) :
    Calls Try.prog 15 #[.agg #[.int .i64 x, .int .i64 y, .int .i64 z]] w fun e w' => e = .returned (.int .i64 (eV x y z)) ∧ Below w.heap.size w w' := by
  go_enter Try.func15, Try.ntmps15
  go_wp2_with (go_at_call 39; refine (coords_any _ _ _ _).mono ?_; rintro e w' ⟨rfl, hb1⟩)
  have hbw : Below w.heap.size w w' := ((Below.refl _ _).alloc (Nat.le_refl _) _).trans (bmono hb1 (by simp))
  clear hb1
  have i0 : ∀ w, (Instr.index 61 (.agg #[.int .i64 x, .int .i64 y, .int .i64 z]) (.int .i64 0)).run Try.prog w = .ok (.int .i64 x) w := fun _ => by kernel_rfl
  have i1 : ∀ w, (Instr.index 61 (.agg #[.int .i64 x, .int .i64 y, .int .i64 z]) (.int .i64 1)).run Try.prog w = .ok (.int .i64 y) w := fun _ => by kernel_rfl
  have i2 : ∀ w, (Instr.index 61 (.agg #[.int .i64 x, .int .i64 y, .int .i64 z]) (.int .i64 2)).run Try.prog w = .ok (.int .i64 z) w := fun _ => by kernel_rfl
  go_loopw [7] (fun i wr => wr = w' ∧ (i = .int .i64 0 ∨ (i = .int .i64 1 ∧ inC x = true) ∨ (i = .int .i64 2 ∧ inC x = true ∧ inC y = true) ∨ (i = .int .i64 3 ∧ inC x = true ∧ inC y = true ∧ inC z = true))) (fun i _ => 3 - (intOf i).toNat)
  case atStart => exact ⟨rfl, .inl rfl⟩
  case round =>
    obtain ⟨rfl, rfl | ⟨rfl, hx⟩ | ⟨rfl, hx, hy⟩ | ⟨rfl, hx, hy, hz⟩⟩ := hrel
    · by_cases h1 : x < -1000000
      · go_wp2
        go_ret
        exact ⟨ret_int (eV_x (inC_lo h1)).symm, hbw⟩
      · by_cases h2 : 1000000 < x
        · go_wp2
          go_ret
          exact ⟨ret_int (eV_x (inC_hi h2)).symm, hbw⟩
        · go_wp2
          go_roundw
          case rel => exact ⟨by trivial, .inr (.inl ⟨by go_num, inC_iff.2 (by omega)⟩)⟩
          case measure => simp [intOf] <;> omega
    · by_cases h1 : y < -1000000
      · go_wp2
        go_ret
        exact ⟨ret_int (eV_y (inC_lo h1)).symm, hbw⟩
      · by_cases h2 : 1000000 < y
        · go_wp2
          go_ret
          exact ⟨ret_int (eV_y (inC_hi h2)).symm, hbw⟩
        · go_wp2
          go_roundw
          case rel => exact ⟨by trivial, .inr (.inr (.inl ⟨by go_num, hx, inC_iff.2 (by omega)⟩))⟩
          case measure => simp [intOf] <;> omega
    · by_cases h1 : z < -1000000
      · go_wp2
        go_ret
        exact ⟨ret_int (eV_z (inC_lo h1)).symm, hbw⟩
      · by_cases h2 : 1000000 < z
        · go_wp2
          go_ret
          exact ⟨ret_int (eV_z (inC_hi h2)).symm, hbw⟩
        · go_wp2
          go_roundw
          case rel => exact ⟨by trivial, .inr (.inr (.inr ⟨by go_num, hx, hy, inC_iff.2 (by omega)⟩))⟩
          case measure => simp [intOf] <;> omega
    · go_wp2
      go_ret
      exact ⟨ret_int (eV_0 hx hy hz).symm, hbw⟩
end Go.Proofs.Ythlidkmalfjmbaa
