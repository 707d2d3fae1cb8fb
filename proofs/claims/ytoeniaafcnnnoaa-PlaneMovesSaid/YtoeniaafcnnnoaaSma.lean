/- The walks of plane's, box's and their references' small functions. No condition but that divisors are positive. -/
import Derived.Test.YtoeniaafcnnnoaaPrm
import Derived.Test.YtoeniaafcnnnoaaEqa
namespace Go.Proofs.Ytoeniaafcnnnoaa
open Go.RowKit

set_option maxHeartbeats 400000 in
theorem factors_any (a b c d : Int) (w : World) :
    Calls Try.prog 52 #[.agg #[.int .i64 a, .int .i64 b, .int .i64 c, .int .i64 d]] w fun e w' => e = .returned (.agg #[.int .i64 a, .int .i64 b, .int .i64 c]) ∧ Below w.heap.size w w' := by
  go_enter Try.func52, Try.ntmps52
  go_wp2
  exact bodyPost_ret (v := .agg #[.int .i64 a, .int .i64 b, .int .i64 c]) (by simp [results, Try.results52, go_sem]) rfl ⟨rfl, by
    repeat (first | exact Below.refl _ _ | refine Below.drew ?_ | refine below_drewN ?_ _ | refine Below.setCell ?_ ?_ _ | refine Below.alloc ?_ ?_ _ | (refine Below.trans ?_ (bmono (by assumption) ?_)))
    all_goals (first | omega | (simp <;> omega))⟩
set_option maxHeartbeats 400000 in
theorem pcoords_any (x y z : Int) (w : World) :
    Calls Try.prog 63 #[.agg #[.int .i64 x, .int .i64 y, .int .i64 z]] w fun e w' => e = .returned (.agg #[.int .i64 x, .int .i64 y, .int .i64 z]) ∧ Below w.heap.size w w' := by
  go_enter Try.func63, Try.ntmps63
  go_wp2
  exact bodyPost_ret (v := .agg #[.int .i64 x, .int .i64 y, .int .i64 z]) (by simp [results, Try.results63, go_sem]) rfl ⟨rfl, by
    repeat (first | exact Below.refl _ _ | refine Below.drew ?_ | refine below_drewN ?_ _ | refine Below.setCell ?_ ?_ _ | refine Below.alloc ?_ ?_ _ | (refine Below.trans ?_ (bmono (by assumption) ?_)))
    all_goals (first | omega | (simp <;> omega))⟩
set_option maxHeartbeats 400000 in
theorem bcoords_any (x y z : Int) (w : World) :
    Calls Try.prog 85 #[.agg #[.int .i64 x, .int .i64 y, .int .i64 z]] w fun e w' => e = .returned (.agg #[.int .i64 x, .int .i64 y, .int .i64 z]) ∧ Below w.heap.size w w' := by
  go_enter Try.func85, Try.ntmps85
  go_wp2
  exact bodyPost_ret (v := .agg #[.int .i64 x, .int .i64 y, .int .i64 z]) (by simp [results, Try.results85, go_sem]) rfl ⟨rfl, by
    repeat (first | exact Below.refl _ _ | refine Below.drew ?_ | refine below_drewN ?_ _ | refine Below.setCell ?_ ?_ _ | refine Below.alloc ?_ ?_ _ | (refine Below.trans ?_ (bmono (by assumption) ?_)))
    all_goals (first | omega | (simp <;> omega))⟩
set_option maxHeartbeats 400000 in
theorem pvec_any (x y z : Int) (w : World) :
    Calls Try.prog 64 #[.agg #[.int .i64 x, .int .i64 y, .int .i64 z]] w fun e w' => e = .returned (.agg #[.int .i64 x, .int .i64 y, .int .i64 z]) ∧ Below w.heap.size w w' := by
  go_enter Try.func64, Try.ntmps64
  go_wp2
  exact bodyPost_ret (v := .agg #[.int .i64 x, .int .i64 y, .int .i64 z]) (by simp [results, Try.results64, go_sem]) rfl ⟨rfl, by
    repeat (first | exact Below.refl _ _ | refine Below.drew ?_ | refine below_drewN ?_ _ | refine Below.setCell ?_ ?_ _ | refine Below.alloc ?_ ?_ _ | (refine Below.trans ?_ (bmono (by assumption) ?_)))
    all_goals (first | omega | (simp <;> omega))⟩
set_option maxHeartbeats 400000 in
theorem outward_any (a b c d : Int) (w : World) :
    Calls Try.prog 51 #[.agg #[.int .i64 a, .int .i64 b, .int .i64 c, .int .i64 d]] w fun e w' => e = .returned (.agg #[.int .i64 a, .int .i64 b, .int .i64 c]) ∧ Below w.heap.size w w' := by
  go_enter Try.func51, Try.ntmps51
  go_wp2_with (first
    | (go_at_call 52; refine (factors_any _ _ _ _ _).mono ?_; rintro e w1 ⟨rfl, hb1⟩; obtain ⟨hc1, hf1⟩ := bcell hb1; have hz1 := hb1.size; (try simp at hz1); (try have y10 : w.heap.size < w1.heap.size := (by omega)); (try have y10p : w.heap.size < w1.heap.size + 1 := (by omega)); (try have y11 : w.heap.size + 1 < w1.heap.size := (by omega)); (try have y11p : w.heap.size + 1 < w1.heap.size + 1 := (by omega)); (try have y12 : w.heap.size + 1 + 1 < w1.heap.size := (by omega)); (try have y12p : w.heap.size + 1 + 1 < w1.heap.size + 1 := (by omega)); (try have v0x1 : w0.heap.size < w1.heap.size := (by omega)); (try have v0x1p : w0.heap.size < w1.heap.size + 1 := (by omega)))
    | (go_at_call 64; refine (pvec_any _ _ _ _).mono ?_; rintro e w2 ⟨rfl, hb2⟩; obtain ⟨hc2, hf2⟩ := bcell hb2; have hz2 := hb2.size; (try simp at hz2); (try have y20 : w.heap.size < w2.heap.size := (by omega)); (try have y20p : w.heap.size < w2.heap.size + 1 := (by omega)); (try have y21 : w.heap.size + 1 < w2.heap.size := (by omega)); (try have y21p : w.heap.size + 1 < w2.heap.size + 1 := (by omega)); (try have y22 : w.heap.size + 1 + 1 < w2.heap.size := (by omega)); (try have y22p : w.heap.size + 1 + 1 < w2.heap.size + 1 := (by omega)); (try have v0x2 : w0.heap.size < w2.heap.size := (by omega)); (try have v0x2p : w0.heap.size < w2.heap.size + 1 := (by omega)); (try have v1x2 : w1.heap.size < w2.heap.size := (by omega)); (try have v1x2p : w1.heap.size < w2.heap.size + 1 := (by omega))))
  exact bodyPost_ret (v := .agg #[.int .i64 a, .int .i64 b, .int .i64 c]) (by simp [results, Try.results51, go_sem, hc1, hc2, y11]) rfl ⟨rfl, by
    repeat (first | exact Below.refl _ _ | refine Below.drew ?_ | refine below_drewN ?_ _ | refine Below.setCell ?_ ?_ _ | refine Below.alloc ?_ ?_ _ | (refine Below.trans ?_ (bmono (by assumption) ?_)))
    all_goals (first | omega | (simp <;> omega))⟩

def inF (n : Int) : Bool := decide (-1000 ≤ n) && decide (n ≤ 1000)
theorem inF_iff {n : Int} : inF n = true ↔ (-1000 ≤ n ∧ n ≤ 1000) := by simp [inF]
theorem inF_no {n : Int} : inF n = false ↔ (n < -1000 ∨ 1000 < n) := by rw [← Bool.not_eq_true, inF_iff]; omega
theorem inF_C {n : Int} (h : inF n = true) : inC n = true := inC_iff.2 (by have := inF_iff.1 h; omega)
set_option maxHeartbeats 400000 in
theorem factor_any (n : Int) (w : World) :
    Calls Try.prog 53 #[.int .i64 n] w fun e w' => e = .returned (.bool (inF n)) ∧ w = w' := by
  go_enter Try.func53, Try.ntmps53
  go_wp2
  all_goals (go_ret; exact ⟨ret_bool (by unfold inF; simp <;> omega), rfl⟩)
set_option maxHeartbeats 400000 in
theorem inr_any (n : Int) (w : World) :
    Calls Try.prog 86 #[.int .i64 n] w fun e w' => e = .returned (.bool (inC n)) ∧ w = w' := by
  go_enter Try.func86, Try.ntmps86
  go_wp2
  all_goals (go_ret; exact ⟨ret_bool (by unfold inC; simp <;> omega), rfl⟩)

def empB (x y z p q r : Int) : Bool := decide (p ≤ x) || (decide (q ≤ y) || decide (r ≤ z))
theorem empB_iff {x y z p q r : Int} : empB x y z p q r = true ↔ (p ≤ x ∨ q ≤ y ∨ r ≤ z) := by simp [empB]
theorem empB_no {x y z p q r : Int} : empB x y z p q r = false ↔ (x < p ∧ y < q ∧ z < r) := by rw [← Bool.not_eq_true, empB_iff]; omega
set_option maxHeartbeats 1000000 in
theorem empty_any (x y z p q r : Int) (w : World) :
    Calls Try.prog 87 #[.agg #[.int .i64 x, .int .i64 y, .int .i64 z, .int .i64 p, .int .i64 q, .int .i64 r]] w fun e w' => e = .returned (.bool (empB x y z p q r)) ∧ Below w.heap.size w w' := by
  go_enter Try.func87, Try.ntmps87
  go_wp2
  all_goals (go_ret; exact ⟨ret_bool (by rw [Bool.eq_iff_iff, empB_iff]; simp <;> omega), (Below.refl _ _).alloc (Nat.le_refl _) _⟩)

theorem tdiv_fl {n d : Int} (hd : 0 < d) : (n.tmod d < 0 → n.tdiv d - 1 = n / d) ∧ (¬ n.tmod d < 0 → n.tdiv d = n / d) := by
  have h1 := Int.mul_tdiv_add_tmod n d
  have h2 := Int.tmod_lt_of_pos n hd
  have h3 : -d < n.tmod d := by
    have h4 := Int.natAbs_tmod n d
    have h5 := Nat.mod_lt n.natAbs (y := d.natAbs) (by omega)
    omega
  constructor
  · intro h
    exact ((Int.ediv_emod_unique hd (r := n.tmod d + d)).2 ⟨by rw [Int.mul_sub, Int.mul_one]; omega, by omega, by omega⟩).1.symm
  · intro h
    exact ((Int.ediv_emod_unique hd (r := n.tmod d)).2 ⟨by omega, by omega, by omega⟩).1.symm
theorem tdiv_bd {n : Int} (d : Int) {B : Nat} (h : n.natAbs ≤ B) : (n.tdiv d).natAbs ≤ B := by
  rw [Int.natAbs_tdiv]; exact Nat.le_trans (Nat.div_le_self _ _) h
set_option maxHeartbeats 1000000 in
theorem rd_any (n d : Int) (hn : n.natAbs ≤ 1000000000000) (hd : 0 < d) (w : World) :
    Calls Try.prog 79 #[.int .i64 n, .int .i64 d] w fun e w' => e = .returned (.int .i64 (n / d)) ∧ w = w' := by
  obtain ⟨f1, f2⟩ := tdiv_fl (n := n) hd
  have hb := tdiv_bd d hn
  have hd0 : d ≠ 0 := by omega
  have F1 := Lib.hid f1
  have F2 := Lib.hid f2
  clear f1 f2
  generalize hq : n / d = q at F1 F2 ⊢
  clear hq
  go_enter Try.func79, Try.ntmps79
  go_wp2
  all_goals (go_ret; exact ⟨ret_int (by first | (rw [w64 (n := n.tdiv d) (by omega)]; exact F2.out ‹_›) | exact F2.out ‹_› | exact F1.out ‹_› | (rw [w64 (n := n.tdiv d) (by omega)]; rw [w64 (by omega)]; exact F1.out ‹_›) | (rw [w64 (n := n.tdiv d) (by omega)]; exact F1.out ‹_›)), rfl⟩)
set_option maxHeartbeats 1000000 in
theorem floor_any (n d : Int) (hn : n.natAbs ≤ 1000000000000) (hd : 0 < d) (w : World) :
    Calls Try.prog 62 #[.int .i64 n, .int .i64 d] w fun e w' => e = .returned (.int .i64 (n / d)) ∧ w = w' := by
  obtain ⟨f1, f2⟩ := tdiv_fl (n := n) hd
  have hb := tdiv_bd d hn
  have hd0 : d ≠ 0 := by omega
  have F1 := Lib.hid f1
  have F2 := Lib.hid f2
  clear f1 f2
  generalize hq : n / d = q at F1 F2 ⊢
  clear hq
  go_enter Try.func62, Try.ntmps62
  go_wp2
  all_goals (go_ret; exact ⟨ret_int (by first | (rw [w64 (n := n.tdiv d) (by omega)]; exact F2.out ‹_›) | exact F2.out ‹_› | exact F1.out ‹_› | (rw [w64 (n := n.tdiv d) (by omega)]; rw [w64 (by omega)]; exact F1.out ‹_›) | (rw [w64 (n := n.tdiv d) (by omega)]; exact F1.out ‹_›)), rfl⟩)
set_option maxHeartbeats 1000000 in
theorem rabs_any (n : Int) (hn : inC n = true) (w : World) :
    Calls Try.prog 61 #[.int .i64 n] w fun e w' => e = .returned (.int .i64 (n.natAbs : Int)) ∧ w = w' := by
  have hb := inC_iff.1 hn
  clear hn
  go_enter Try.func61, Try.ntmps61
  go_wp2
  all_goals (go_ret; exact ⟨ret_int (by omega), rfl⟩)
set_option maxHeartbeats 1000000 in
theorem at_any (x y z k : Int) (w : World) :
    Calls Try.prog 78 #[.agg #[.int .i64 x, .int .i64 y, .int .i64 z], .int .i64 k] w fun e w' => e = .returned (.int .i64 (if k = 0 then x else if k = 1 then y else z)) ∧ Below w.heap.size w w' := by
  by_cases h0 : k = 0
  · subst h0
    go_enter Try.func78, Try.ntmps78
    go_wp2
    go_ret
    exact ⟨rfl, (Below.refl _ _).alloc (Nat.le_refl _) _⟩
  · by_cases h1 : k = 1
    · subst h1
      go_enter Try.func78, Try.ntmps78
      go_wp2
      go_ret
      exact ⟨rfl, (Below.refl _ _).alloc (Nat.le_refl _) _⟩
    · have e0 : (k == 0) = false := by simpa using h0
      have e1 : (k == 1) = false := by simpa using h1
      rw [if_neg h0, if_neg h1]
      go_enter Try.func78, Try.ntmps78
      go_wp2
      go_ret
      exact ⟨rfl, (Below.refl _ _).alloc (Nat.le_refl _) _⟩
end Go.Proofs.Ytoeniaafcnnnoaa
