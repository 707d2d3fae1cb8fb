/- The walks of kerf's, box's and their references' small functions. -/
import Derived.Test.YtogmgaaejepcbaaSma
import Derived.Test.YtogmgaaejepcbaaEqs
namespace Go.Proofs.Ytogmgaaejepcbaa
open Go.RowKit

def rgB (a b n : Int) : Bool := decide (a ≤ n) && decide (n ≤ b)
theorem rgB_iff {a b n : Int} : rgB a b n = true ↔ (a ≤ n ∧ n ≤ b) := by simp [rgB]
theorem rgB_no {a b n : Int} : rgB a b n = false ↔ (n < a ∨ b < n) := by rw [← Bool.not_eq_true, rgB_iff]; omega
theorem w64' {n : Int} (h1 : -9000000000000000000 ≤ n) (h2 : n ≤ 9000000000000000000) : wrap64 n = n := IntWalk.wrap64_in n (by omega)
set_option maxHeartbeats 1000000 in
theorem isKerf_any (n : Int) (w : World) :
    Calls Try.prog 46 #[.int .i64 n] w fun e w' => e = .returned (.bool (rgB 0 1000 n)) ∧ w = w' := by
  go_enter Try.func46, Try.ntmps46
  go_wp2
  all_goals (go_ret; exact ⟨ret_bool (by unfold rgB; simp <;> omega), rfl⟩)
set_option maxHeartbeats 1000000 in
theorem rKerf_any (n : Int) (w : World) :
    Calls Try.prog 25 #[.int .i64 n] w fun e w' => e = .returned (.bool (rgB 0 1000 n)) ∧ w = w' := by
  go_enter Try.func25, Try.ntmps25
  go_wp2
  all_goals (go_ret; exact ⟨ret_bool (by unfold rgB; simp <;> omega), rfl⟩)
set_option maxHeartbeats 1000000 in
theorem isLen_any (n : Int) (w : World) :
    Calls Try.prog 48 #[.int .i64 n] w fun e w' => e = .returned (.bool (rgB 1 2000000 n)) ∧ w = w' := by
  go_enter Try.func48, Try.ntmps48
  go_wp2
  all_goals (go_ret; exact ⟨ret_bool (by unfold rgB; simp <;> omega), rfl⟩)
set_option maxHeartbeats 1000000 in
theorem rLen_any (n : Int) (w : World) :
    Calls Try.prog 24 #[.int .i64 n] w fun e w' => e = .returned (.bool (rgB 1 2000000 n)) ∧ w = w' := by
  go_enter Try.func24, Try.ntmps24
  go_wp2
  all_goals (go_ret; exact ⟨ret_bool (by unfold rgB; simp <;> omega), rfl⟩)
set_option maxHeartbeats 1000000 in
theorem rAxis_any (n : Int) (w : World) :
    Calls Try.prog 40 #[.int .i64 n] w fun e w' => e = .returned (.bool (rgB 0 2 n)) ∧ w = w' := by
  go_enter Try.func40, Try.ntmps40
  go_wp2
  all_goals (go_ret; exact ⟨ret_bool (by unfold rgB; simp <;> omega), rfl⟩)
set_option maxHeartbeats 1000000 in
theorem most_any (l t k : Int) (hl : 1 ≤ l) (hl2 : l ≤ 2000000) (ht : 1 ≤ t) (ht2 : t ≤ 2000000) (hk : 0 ≤ k) (hk2 : k ≤ 1000) (w : World) :
    Calls Try.prog 49 #[.int .i64 l, .int .i64 t, .int .i64 k] w fun e w' => e = .returned (.int .i64 ((l + k) / (t + k))) ∧ w = w' := by
  have d0 : (t + k) ≠ 0 := by omega
  have dz : 0 ≤ l + k := by omega
  have dp : 0 < t + k := by omega
  go_enter Try.func49, Try.ntmps49
  go_wp2
  go_ret
  exact ⟨ret_int (by trivial), rfl⟩
set_option maxHeartbeats 1000000 in
theorem rMost_any (l t k : Int) (hl : 1 ≤ l) (hl2 : l ≤ 2000000) (ht : 1 ≤ t) (ht2 : t ≤ 2000000) (hk : 0 ≤ k) (hk2 : k ≤ 1000) (w : World) :
    Calls Try.prog 26 #[.int .i64 l, .int .i64 t, .int .i64 k] w fun e w' => e = .returned (.int .i64 ((l + k) / (t + k))) ∧ w = w' := by
  have d0 : (t + k) ≠ 0 := by omega
  have dz : 0 ≤ l + k := by omega
  have dp : 0 < t + k := by omega
  go_enter Try.func26, Try.ntmps26
  go_wp2
  go_ret
  exact ⟨ret_int (by trivial), rfl⟩
set_option maxHeartbeats 1000000 in
theorem get0 (x y z : Int) (w : World) :
    Calls Try.prog 41 #[.agg #[.int .i64 x, .int .i64 y, .int .i64 z], .int .i64 0] w fun e w' => e = .returned (.int .i64 x) ∧ Below w.heap.size w w' := by
  go_enter Try.func41, Try.ntmps41
  go_wp2
  go_ret
  exact ⟨rfl, (Below.refl _ _).alloc (Nat.le_refl _) _⟩
set_option maxHeartbeats 1000000 in
theorem put0 (x y z n : Int) (w : World) :
    Calls Try.prog 47 #[.agg #[.int .i64 x, .int .i64 y, .int .i64 z], .int .i64 0, .int .i64 n] w fun e w' => e = .returned (.agg #[.int .i64 n, .int .i64 y, .int .i64 z]) ∧ Below w.heap.size w w' := by
  go_enter Try.func47, Try.ntmps47
  go_wp2
  exact bodyPost_ret (v := .agg #[.int .i64 n, .int .i64 y, .int .i64 z]) (by simp [results, Try.results47, go_sem]) rfl ⟨rfl, by
    repeat (first | with_reducible exact Below.refl _ _ | with_reducible refine Below.setCell ?_ ?_ _ | with_reducible refine Below.alloc ?_ ?_ _ | with_reducible refine Below.drew ?_ | with_reducible refine below_drewN ?_ _ | (refine Below.trans ?_ (bmono (by assumption) ?_)))
    all_goals (first | omega | (simp <;> omega))⟩
set_option maxHeartbeats 1000000 in
theorem get1 (x y z : Int) (w : World) :
    Calls Try.prog 41 #[.agg #[.int .i64 x, .int .i64 y, .int .i64 z], .int .i64 1] w fun e w' => e = .returned (.int .i64 y) ∧ Below w.heap.size w w' := by
  go_enter Try.func41, Try.ntmps41
  go_wp2
  go_ret
  exact ⟨rfl, (Below.refl _ _).alloc (Nat.le_refl _) _⟩
set_option maxHeartbeats 1000000 in
theorem put1 (x y z n : Int) (w : World) :
    Calls Try.prog 47 #[.agg #[.int .i64 x, .int .i64 y, .int .i64 z], .int .i64 1, .int .i64 n] w fun e w' => e = .returned (.agg #[.int .i64 x, .int .i64 n, .int .i64 z]) ∧ Below w.heap.size w w' := by
  go_enter Try.func47, Try.ntmps47
  go_wp2
  exact bodyPost_ret (v := .agg #[.int .i64 x, .int .i64 n, .int .i64 z]) (by simp [results, Try.results47, go_sem]) rfl ⟨rfl, by
    repeat (first | with_reducible exact Below.refl _ _ | with_reducible refine Below.setCell ?_ ?_ _ | with_reducible refine Below.alloc ?_ ?_ _ | with_reducible refine Below.drew ?_ | with_reducible refine below_drewN ?_ _ | (refine Below.trans ?_ (bmono (by assumption) ?_)))
    all_goals (first | omega | (simp <;> omega))⟩
set_option maxHeartbeats 1000000 in
theorem get2 (x y z : Int) (w : World) :
    Calls Try.prog 41 #[.agg #[.int .i64 x, .int .i64 y, .int .i64 z], .int .i64 2] w fun e w' => e = .returned (.int .i64 z) ∧ Below w.heap.size w w' := by
  go_enter Try.func41, Try.ntmps41
  go_wp2
  go_ret
  exact ⟨rfl, (Below.refl _ _).alloc (Nat.le_refl _) _⟩
set_option maxHeartbeats 1000000 in
theorem put2 (x y z n : Int) (w : World) :
    Calls Try.prog 47 #[.agg #[.int .i64 x, .int .i64 y, .int .i64 z], .int .i64 2, .int .i64 n] w fun e w' => e = .returned (.agg #[.int .i64 x, .int .i64 y, .int .i64 n]) ∧ Below w.heap.size w w' := by
  go_enter Try.func47, Try.ntmps47
  go_wp2
  exact bodyPost_ret (v := .agg #[.int .i64 x, .int .i64 y, .int .i64 n]) (by simp [results, Try.results47, go_sem]) rfl ⟨rfl, by
    repeat (first | with_reducible exact Below.refl _ _ | with_reducible refine Below.setCell ?_ ?_ _ | with_reducible refine Below.alloc ?_ ?_ _ | with_reducible refine Below.drew ?_ | with_reducible refine below_drewN ?_ _ | (refine Below.trans ?_ (bmono (by assumption) ?_)))
    all_goals (first | omega | (simp <;> omega))⟩
set_option maxHeartbeats 1000000 in
theorem ours_any (a t k : Int) (w : World) :
    Calls Try.prog 15 #[.agg #[.int .i64 a, .int .i64 t, .int .i64 k]] w fun e w' => e = .returned (.agg #[.int .i64 a, .int .i64 t, .int .i64 k]) ∧ Below w.heap.size w w' := by
  go_enter Try.func15, Try.ntmps15
  go_wp2
  exact bodyPost_ret (v := .agg #[.int .i64 a, .int .i64 t, .int .i64 k]) (by simp [results, Try.results15, go_sem]) rfl ⟨rfl, by
    repeat (first | with_reducible exact Below.refl _ _ | with_reducible refine Below.setCell ?_ ?_ _ | with_reducible refine Below.alloc ?_ ?_ _ | with_reducible refine Below.drew ?_ | with_reducible refine below_drewN ?_ _ | (refine Below.trans ?_ (bmono (by assumption) ?_)))
    all_goals (first | omega | (simp <;> omega))⟩
set_option maxHeartbeats 1000000 in
theorem bar_any  (w : World) :
    Calls Try.prog 39 #[] w fun e w' => e = .returned (.agg #[.int .i64 0, .int .i64 0, .int .i64 0, .int .i64 100, .int .i64 10, .int .i64 10]) ∧ Below w.heap.size w w' := by
  go_enter Try.func39, Try.ntmps39
  go_wp2
  exact bodyPost_ret (v := .agg #[.int .i64 0, .int .i64 0, .int .i64 0, .int .i64 100, .int .i64 10, .int .i64 10]) (by simp [results, Try.results39, go_sem]) rfl ⟨rfl, by
    repeat (first | with_reducible exact Below.refl _ _ | with_reducible refine Below.setCell ?_ ?_ _ | with_reducible refine Below.alloc ?_ ?_ _ | with_reducible refine Below.drew ?_ | with_reducible refine below_drewN ?_ _ | (refine Below.trans ?_ (bmono (by assumption) ?_)))
    all_goals (first | omega | (simp <;> omega))⟩
def volI (x y z p q r : Int) : Int := (p - x) * (q - y) * (r - z)
theorem mul_bd {a b A B : Int} (ha : 0 ≤ a) (hA : a ≤ A) (hb : 0 ≤ b) (hB : b ≤ B) : 0 ≤ a * b ∧ a * b ≤ A * B :=
  ⟨Int.mul_nonneg ha hb, Int.mul_le_mul hA hB hb (by omega)⟩
set_option maxHeartbeats 1000000 in
theorem rvol_any (x y z p q r : Int) (h1 : 0 ≤ p - x) (h2 : p - x ≤ 2000000) (h3 : 0 ≤ q - y) (h4 : q - y ≤ 2000000) (h5 : 0 ≤ r - z) (h6 : r - z ≤ 2000000) (w : World) :
    Calls Try.prog 19 #[.agg #[.int .i64 x, .int .i64 y, .int .i64 z, .int .i64 p, .int .i64 q, .int .i64 r]] w fun e w' => e = .returned (.int .i64 (volI x y z p q r)) ∧ Below w.heap.size w w' := by
  obtain ⟨m1, m2⟩ := mul_bd h1 h2 h3 h4
  obtain ⟨m3, m4⟩ := mul_bd m1 m2 h5 h6
  have e4 : wrap64 ((p - x) * (q - y)) = (p - x) * (q - y) := w64' (by omega) (by omega)
  have e5 : wrap64 ((p - x) * (q - y) * (r - z)) = (p - x) * (q - y) * (r - z) := w64' (by omega) (by omega)
  have E4 := Lib.hid e4
  have E5 := Lib.hid e5
  clear e4 e5 m1 m2 m3 m4
  go_enter Try.func19, Try.ntmps19
  go_wp2
  go_ret
  refine ⟨ret_int ?_, ?_⟩
  · unfold volI
    simp [E4.out, E5.out]
  · repeat (first | with_reducible exact Below.refl _ _ | with_reducible refine Below.setCell ?_ ?_ _ | with_reducible refine Below.alloc ?_ ?_ _ | with_reducible refine Below.drew ?_ | with_reducible refine below_drewN ?_ _ | (refine Below.trans ?_ (bmono (by assumption) ?_)))
    all_goals (first | omega | (simp <;> omega))
set_option maxHeartbeats 1000000 in
theorem lvol_any (x y z p q r : Int) (h1 : 0 ≤ p - x) (h2 : p - x ≤ 2000000) (h3 : 0 ≤ q - y) (h4 : q - y ≤ 2000000) (h5 : 0 ≤ r - z) (h6 : r - z ≤ 2000000) (w : World) :
    Calls Try.prog 38 #[.agg #[.int .i64 x, .int .i64 y, .int .i64 z, .int .i64 p, .int .i64 q, .int .i64 r]] w fun e w' => e = .returned (.int .i64 (volI x y z p q r)) ∧ Below w.heap.size w w' := by
  obtain ⟨m1, m2⟩ := mul_bd h1 h2 h3 h4
  obtain ⟨m3, m4⟩ := mul_bd m1 m2 h5 h6
  have e4 : wrap64 ((p - x) * (q - y)) = (p - x) * (q - y) := w64' (by omega) (by omega)
  have e5 : wrap64 ((p - x) * (q - y) * (r - z)) = (p - x) * (q - y) * (r - z) := w64' (by omega) (by omega)
  have E4 := Lib.hid e4
  have E5 := Lib.hid e5
  clear e4 e5 m1 m2 m3 m4
  go_enter Try.func38, Try.ntmps38
  go_wp2
  go_ret
  refine ⟨ret_int ?_, ?_⟩
  · unfold volI
    simp [E4.out, E5.out]
  · repeat (first | with_reducible exact Below.refl _ _ | with_reducible refine Below.setCell ?_ ?_ _ | with_reducible refine Below.alloc ?_ ?_ _ | with_reducible refine Below.drew ?_ | with_reducible refine below_drewN ?_ _ | (refine Below.trans ?_ (bmono (by assumption) ?_)))
    all_goals (first | omega | (simp <;> omega))
set_option maxHeartbeats 1000000 in
theorem size_any (x y z p q r : Int) (h1 : 0 ≤ p - x) (h2 : p - x ≤ 2000000) (h3 : 0 ≤ q - y) (h4 : q - y ≤ 2000000) (h5 : 0 ≤ r - z) (h6 : r - z ≤ 2000000) (w : World) :
    Calls Try.prog 64 #[.agg #[.int .i64 x, .int .i64 y, .int .i64 z, .int .i64 p, .int .i64 q, .int .i64 r]] w fun e w' => e = .returned (.agg #[.int .i64 (p - x), .int .i64 (q - y), .int .i64 (r - z)]) ∧ Below w.heap.size w w' := by
  go_enter Try.func64, Try.ntmps64
  go_wp2
  exact bodyPost_ret (v := .agg #[.int .i64 (p - x), .int .i64 (q - y), .int .i64 (r - z)]) (by simp [results, Try.results64, go_sem]) rfl ⟨rfl, by
    repeat (first | with_reducible exact Below.refl _ _ | with_reducible refine Below.setCell ?_ ?_ _ | with_reducible refine Below.alloc ?_ ?_ _ | with_reducible refine Below.drew ?_ | with_reducible refine below_drewN ?_ _ | (refine Below.trans ?_ (bmono (by assumption) ?_)))
    all_goals (first | omega | (simp <;> omega))⟩
set_option maxHeartbeats 1000000 in
theorem greatest_any (x y z a b c : Int) (w : World) :
    Calls Try.prog 62 #[.agg #[.int .i64 x, .int .i64 y, .int .i64 z], .agg #[.int .i64 a, .int .i64 b, .int .i64 c]] w fun e w' => e = .returned (.agg #[.int .i64 (max x a), .int .i64 (max y b), .int .i64 (max z c)]) ∧ Below w.heap.size w w' := by
  go_enter Try.func62, Try.ntmps62
  go_wp2
  all_goals (exact bodyPost_ret (v := .agg #[.int .i64 (max x a), .int .i64 (max y b), .int .i64 (max z c)]) (by simp [results, Try.results62, go_sem] <;> omega) rfl ⟨rfl, by
    repeat (first | with_reducible exact Below.refl _ _ | with_reducible refine Below.setCell ?_ ?_ _ | with_reducible refine Below.alloc ?_ ?_ _ | with_reducible refine Below.drew ?_ | with_reducible refine below_drewN ?_ _ | (refine Below.trans ?_ (bmono (by assumption) ?_)))
    all_goals (first | omega | (simp <;> omega))⟩)
set_option maxHeartbeats 1000000 in
theorem least_any (x y z a b c : Int) (w : World) :
    Calls Try.prog 63 #[.agg #[.int .i64 x, .int .i64 y, .int .i64 z], .agg #[.int .i64 a, .int .i64 b, .int .i64 c]] w fun e w' => e = .returned (.agg #[.int .i64 (min x a), .int .i64 (min y b), .int .i64 (min z c)]) ∧ Below w.heap.size w w' := by
  go_enter Try.func63, Try.ntmps63
  go_wp2
  all_goals (exact bodyPost_ret (v := .agg #[.int .i64 (min x a), .int .i64 (min y b), .int .i64 (min z c)]) (by simp [results, Try.results63, go_sem] <;> omega) rfl ⟨rfl, by
    repeat (first | with_reducible exact Below.refl _ _ | with_reducible refine Below.setCell ?_ ?_ _ | with_reducible refine Below.alloc ?_ ?_ _ | with_reducible refine Below.drew ?_ | with_reducible refine below_drewN ?_ _ | (refine Below.trans ?_ (bmono (by assumption) ?_)))
    all_goals (first | omega | (simp <;> omega))⟩)
end Go.Proofs.Ytogmgaaejepcbaa
