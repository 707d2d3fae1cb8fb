/- The walks of Primitive at vectors out of range and at zero; what its result is. No condition. -/
import Derived.Test.YtoeniaafcnnnoaaGcd
namespace Go.Proofs.Ytoeniaafcnnnoaa
open Go.RowKit

set_option maxHeartbeats 1000000 in
theorem prim_bad (x y z : Int) (h : inV x y z = false) (w : World) :
    Calls Try.prog 40 #[.agg #[.int .i64 x, .int .i64 y, .int .i64 z]] w fun e w' => e = .returned (.tuple #[.agg #[.int .i64 0, .int .i64 0, .int .i64 0], .int .i64 0, .int .i64 6]) ∧ Below w.heap.size w w' := by
  have hck := check_any x y z
  rw [eV_out h] at hck
  clear h
  go_enter Try.func40, Try.ntmps40
  go_wp2_with (go_at_call 71; refine (hck _).mono ?_; rintro e w1 ⟨rfl, hb1⟩; obtain ⟨hc1, hf1⟩ := bcell hb1; have hz1 := hb1.size; (try simp at hz1); (try have y10 : w.heap.size < w1.heap.size := (by omega)); (try have y11 : w.heap.size + 1 < w1.heap.size := (by omega)); (try have y12 : w.heap.size + 1 + 1 < w1.heap.size := (by omega)); (try have y13 : w.heap.size + 1 + 1 + 1 < w1.heap.size := (by omega)); (try have y14 : w.heap.size + 1 + 1 + 1 + 1 < w1.heap.size := (by omega)))
  exact bodyPost_ret (v := .tuple #[.agg #[.int .i64 0, .int .i64 0, .int .i64 0], .int .i64 0, .int .i64 6]) (by simp [results, Try.results40, go_sem, hc1]) rfl ⟨rfl, by
    repeat (first | exact Below.refl _ _ | refine Below.drew ?_ | refine below_drewN ?_ _ | refine Below.setCell ?_ ?_ _ | refine Below.alloc ?_ ?_ _ | (refine Below.trans ?_ (bmono (by assumption) ?_)))
    all_goals (first | omega | (simp <;> omega))⟩
set_option maxHeartbeats 1000000 in
theorem prim_zero (w : World) :
    Calls Try.prog 40 #[.agg #[.int .i64 0, .int .i64 0, .int .i64 0]] w fun e w' => e = .returned (.tuple #[.agg #[.int .i64 0, .int .i64 0, .int .i64 0], .int .i64 0, .int .i64 1]) ∧ Below w.heap.size w w' := by
  have hck := check_any 0 0 0
  rw [eV_in (by decide)] at hck
  have hq := eqV 0 0 0 0 0 0
  rw [show ((0 : Int) == 0 && ((0 : Int) == 0 && (0 : Int) == 0)) = true by decide] at hq
  go_enter Try.func40, Try.ntmps40
  go_wp2_with (go_at_call 71; refine (hck _).mono ?_; rintro e w1 ⟨rfl, hb1⟩; obtain ⟨hc1, hf1⟩ := bcell hb1; have hz1 := hb1.size; (try simp at hz1); (try have y10 : w.heap.size < w1.heap.size := (by omega)); (try have y11 : w.heap.size + 1 < w1.heap.size := (by omega)); (try have y12 : w.heap.size + 1 + 1 < w1.heap.size := (by omega)); (try have y13 : w.heap.size + 1 + 1 + 1 < w1.heap.size := (by omega)); (try have y14 : w.heap.size + 1 + 1 + 1 + 1 < w1.heap.size := (by omega)))
  exact bodyPost_ret (v := .tuple #[.agg #[.int .i64 0, .int .i64 0, .int .i64 0], .int .i64 0, .int .i64 1]) (by simp [results, Try.results40, go_sem, hc1]) rfl ⟨rfl, by
    repeat (first | exact Below.refl _ _ | refine Below.drew ?_ | refine below_drewN ?_ _ | refine Below.setCell ?_ ?_ _ | refine Below.alloc ?_ ?_ _ | (refine Below.trans ?_ (bmono (by assumption) ?_)))
    all_goals (first | omega | (simp <;> omega))⟩

theorem gcd3_ne {x y z : Int} (h : (x == 0 && (y == 0 && z == 0)) = false) : gcd3 x y z ≠ 0 := by
  intro h0
  unfold gcd3 at h0
  rw [Nat.gcd_eq_zero_iff, Nat.gcd_eq_zero_iff] at h0
  obtain ⟨⟨h1, h2⟩, h3⟩ := h0
  rw [Int.natAbs_eq_zero] at h1 h2 h3
  subst h1; subst h2; subst h3
  simp at h
theorem gcd3_dvd (x y z : Int) : gcd3 x y z ∣ x.natAbs ∧ gcd3 x y z ∣ y.natAbs ∧ gcd3 x y z ∣ z.natAbs :=
  ⟨Nat.dvd_trans (Nat.gcd_dvd_left _ _) (Nat.gcd_dvd_left _ _), Nat.dvd_trans (Nat.gcd_dvd_left _ _) (Nat.gcd_dvd_right _ _), Nat.gcd_dvd_right _ _⟩
theorem tdiv_abs (x : Int) (f : Nat) : (x.tdiv f).natAbs = x.natAbs / f := by rw [Int.natAbs_tdiv, Int.natAbs_natCast]; rfl
theorem tdiv_in {x : Int} {f : Nat} (h : inC x = true) : inC (x.tdiv f) = true := by
  have h1 := inC_abs h
  have h2 := tdiv_abs x f
  have h3 := Nat.div_le_self x.natAbs f
  exact inC_iff.2 (by omega)
theorem tdiv_mul {x : Int} {f : Nat} (h : f ∣ x.natAbs) : (f : Int) * x.tdiv f = x := Int.mul_tdiv_cancel' (Int.ofNat_dvd_left.2 h)
theorem gcd3_div {x y z : Int} {f : Nat} (hf : f = gcd3 x y z) (h0 : f ≠ 0) : gcd3 (x.tdiv f) (y.tdiv f) (z.tdiv f) = 1 := by
  obtain ⟨d1, d2, d3⟩ := gcd3_dvd x y z
  rw [← hf] at d1 d2 d3
  unfold gcd3
  rw [tdiv_abs, tdiv_abs, tdiv_abs, Nat.gcd_div d1 d2, Nat.gcd_div (Nat.dvd_gcd d1 d2) d3, show Nat.gcd (Nat.gcd x.natAbs y.natAbs) z.natAbs = gcd3 x y z from rfl, ← hf, Nat.div_self (by omega)]
theorem gcd3_neg (x y z : Int) : gcd3 (-x) (-y) (-z) = gcd3 x y z := by unfold gcd3; simp
end Go.Proofs.Ytoeniaafcnnnoaa
