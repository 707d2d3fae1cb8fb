/- The law PlaneCells: it answers true, whatever the half-space, the box and the cell; and the claim. -/
import Derived.Test.YtoeniaafcnnnoaaCem
import Derived.Test.YtoeniaafcnnnoaaNes
namespace Go.Proofs.Ytoeniaafcnnnoaa
open Go.ChangeShapes Go.WideShapes Go.ChangeAt Go.RowKit

set_option maxHeartbeats 40000000 in
set_option maxRecDepth 100000 in
theorem planeCells_gen (a b c d x y z p q r i j k er S S' R1 R2 R3 R4 R5 R6 : Int)
    (h3 : ∀ w, Calls Try.prog 33 #[.agg #[.int .i64 a, .int .i64 b, .int .i64 c, .int .i64 d], .agg #[.int .i64 x, .int .i64 y, .int .i64 z, .int .i64 p, .int .i64 q, .int .i64 r]] w fun e w' => e = .returned (.tuple #[.agg #[.int .i64 R1, .int .i64 R2, .int .i64 R3, .int .i64 R4, .int .i64 R5, .int .i64 R6], .int .i64 er]) ∧ Below w.heap.size w w') (h4 : ∀ w, Calls Try.prog 24 #[.agg #[.int .i64 a, .int .i64 b, .int .i64 c, .int .i64 d], .agg #[.int .i64 x, .int .i64 y, .int .i64 z, .int .i64 p, .int .i64 q, .int .i64 r]] w fun e w' => e = .returned (.tuple #[.int .i64 S, .int .i64 0]) ∧ Below w.heap.size w w')
    (hc : x ≤ i → i < p → y ≤ j → j < q → z ≤ k → k < r → ∀ w, Calls Try.prog 24 #[.agg #[.int .i64 a, .int .i64 b, .int .i64 c, .int .i64 d], .agg #[.int .i64 i, .int .i64 j, .int .i64 k, .int .i64 (i + 1), .int .i64 (j + 1), .int .i64 (k + 1)]] w fun e w' => e = .returned (.tuple #[.int .i64 S', .int .i64 0]) ∧ Below w.heap.size w w')
    (hi : x ≤ i → i < p → y ≤ j → j < q → z ≤ k → k < r → S' = 1 → er = 0 ∧ R1 ≤ i ∧ i < R4 ∧ R2 ≤ j ∧ j < R5 ∧ R3 ≤ k ∧ k < R6)
    (bp : p ≤ 1000000) (bq : q ≤ 1000000) (br : r ≤ 1000000) (bx : -1000000 ≤ x) (b_y : -1000000 ≤ y) (bz : -1000000 ≤ z)
    (cs : (S = 1 ∧ er = 0 ∧ (R1 = x ∧ R2 = y ∧ R3 = z) ∧ R4 = p ∧ R5 = q ∧ R6 = r) ∨ (S ≠ 1 ∧ er = 0 ∧ (x ≤ R1 ∧ y ≤ R2 ∧ z ≤ R3) ∧ R4 ≤ p ∧ R5 ≤ q ∧ R6 ≤ r) ∨ (S ≠ 1 ∧ er = 9)) (w : World) :
    Calls Try.prog 11 #[.agg #[.int .i64 a, .int .i64 b, .int .i64 c, .int .i64 d], .agg #[.int .i64 x, .int .i64 y, .int .i64 z, .int .i64 p, .int .i64 q, .int .i64 r], .agg #[.int .i64 i, .int .i64 j, .int .i64 k]] w fun e w' => e = .returned (.bool true) ∧ Below w.heap.size w w' := by
  have HC := Lib.hid hc
  have HI := Lib.hid hi
  clear hc hi
  rcases cs with ⟨rfl, rfl, ⟨rfl, rfl, rfl⟩, rfl, rfl, rfl⟩ | ⟨hS, rfl, ⟨f1, f2, f3⟩, f4, f5, f6⟩ | ⟨hS, rfl⟩
  · have e1 : ∀ w, Sem.run Try.prog (binOp .neq 42 (.agg #[.int .i64 R1, .int .i64 R2, .int .i64 R3, .int .i64 R4, .int .i64 R5, .int .i64 R6]) (.agg #[.int .i64 R1, .int .i64 R2, .int .i64 R3, .int .i64 R4, .int .i64 R5, .int .i64 R6])) w = .ok (.bool false) w := fun w => by rw [neB_run]; simp
    go_enter Try.func11, Try.ntmps11
    go_wp2_with (first
          | (go_at_call 17; refine (awake_any _).mono ?_; rintro e w1 ⟨rfl, hb1⟩; obtain ⟨hc1, hf1⟩ := bcell hb1; have hz1 := hb1.size; (try simp at hz1); (try have y10 : w.heap.size < w1.heap.size := (by omega)); (try have y10p : w.heap.size < w1.heap.size + 1 := (by omega)); (try have y11 : w.heap.size + 1 < w1.heap.size := (by omega)); (try have y11p : w.heap.size + 1 < w1.heap.size + 1 := (by omega)); (try have y12 : w.heap.size + 1 + 1 < w1.heap.size := (by omega)); (try have y12p : w.heap.size + 1 + 1 < w1.heap.size + 1 := (by omega)); (try have v0x1 : w0.heap.size < w1.heap.size := (by omega)); (try have v0x1p : w0.heap.size < w1.heap.size + 1 := (by omega)))
          | (go_at_call 33; refine (h3 _).mono ?_; rintro e w2 ⟨rfl, hb2⟩; obtain ⟨hc2, hf2⟩ := bcell hb2; have hz2 := hb2.size; (try simp at hz2); (try have y20 : w.heap.size < w2.heap.size := (by omega)); (try have y20p : w.heap.size < w2.heap.size + 1 := (by omega)); (try have y21 : w.heap.size + 1 < w2.heap.size := (by omega)); (try have y21p : w.heap.size + 1 < w2.heap.size + 1 := (by omega)); (try have y22 : w.heap.size + 1 + 1 < w2.heap.size := (by omega)); (try have y22p : w.heap.size + 1 + 1 < w2.heap.size + 1 := (by omega)); (try have v0x2 : w0.heap.size < w2.heap.size := (by omega)); (try have v0x2p : w0.heap.size < w2.heap.size + 1 := (by omega)); (try have v1x2 : w1.heap.size < w2.heap.size := (by omega)); (try have v1x2p : w1.heap.size < w2.heap.size + 1 := (by omega)))
          | (revert hb3; intro hb3; go_at_call 24; refine (HC.out (by omega) (by omega) (by omega) (by omega) (by omega) (by omega) _).mono ?_; rintro e w4 ⟨rfl, hb4⟩; obtain ⟨hc4, hf4⟩ := bcell hb4; have hz4 := hb4.size; (try simp at hz4); (try have y40 : w.heap.size < w4.heap.size := (by omega)); (try have y40p : w.heap.size < w4.heap.size + 1 := (by omega)); (try have y41 : w.heap.size + 1 < w4.heap.size := (by omega)); (try have y41p : w.heap.size + 1 < w4.heap.size + 1 := (by omega)); (try have y42 : w.heap.size + 1 + 1 < w4.heap.size := (by omega)); (try have y42p : w.heap.size + 1 + 1 < w4.heap.size + 1 := (by omega)); (try have v0x4 : w0.heap.size < w4.heap.size := (by omega)); (try have v0x4p : w0.heap.size < w4.heap.size + 1 := (by omega)); (try have v1x4 : w1.heap.size < w4.heap.size := (by omega)); (try have v1x4p : w1.heap.size < w4.heap.size + 1 := (by omega)); (try have v2x4 : w2.heap.size < w4.heap.size := (by omega)); (try have v2x4p : w2.heap.size < w4.heap.size + 1 := (by omega)); (try have v3x4 : w3.heap.size < w4.heap.size := (by omega)); (try have v3x4p : w3.heap.size < w4.heap.size + 1 := (by omega)))
          | (go_at_call 24; refine (h4 _).mono ?_; rintro e w3 ⟨rfl, hb3⟩; obtain ⟨hc3, hf3⟩ := bcell hb3; have hz3 := hb3.size; (try simp at hz3); (try have y30 : w.heap.size < w3.heap.size := (by omega)); (try have y30p : w.heap.size < w3.heap.size + 1 := (by omega)); (try have y31 : w.heap.size + 1 < w3.heap.size := (by omega)); (try have y31p : w.heap.size + 1 < w3.heap.size + 1 := (by omega)); (try have y32 : w.heap.size + 1 + 1 < w3.heap.size := (by omega)); (try have y32p : w.heap.size + 1 + 1 < w3.heap.size + 1 := (by omega)); (try have v0x3 : w0.heap.size < w3.heap.size := (by omega)); (try have v0x3p : w0.heap.size < w3.heap.size + 1 := (by omega)); (try have v1x3 : w1.heap.size < w3.heap.size := (by omega)); (try have v1x3p : w1.heap.size < w3.heap.size + 1 := (by omega)); (try have v2x3 : w2.heap.size < w3.heap.size := (by omega)); (try have v2x3p : w2.heap.size < w3.heap.size + 1 := (by omega))))
    all_goals
      go_ret
      refine ⟨ret_bool (by first | rfl | (simp <;> omega) | (have hq := HI.out (by omega) (by omega) (by omega) (by omega) (by omega) (by omega) (by first | omega | simpa using (by assumption : (S' != 1) = false)); first | (exfalso; omega) | (simp <;> omega))), ?_⟩
      clear HI
      repeat (first | with_reducible exact Below.refl _ _ | with_reducible refine Below.setCell ?_ ?_ _ | with_reducible refine Below.alloc ?_ ?_ _ | with_reducible refine Below.drew ?_ | with_reducible refine below_drewN ?_ _ | (refine Below.trans ?_ (bmono (by assumption) ?_)))
      all_goals (first | omega | (simp <;> omega))
  · have t1 : (S == 1) = false := by simpa using hS
    clear hS
    go_enter Try.func11, Try.ntmps11
    go_wp2_with (first
          | (go_at_call 17; refine (awake_any _).mono ?_; rintro e w1 ⟨rfl, hb1⟩; obtain ⟨hc1, hf1⟩ := bcell hb1; have hz1 := hb1.size; (try simp at hz1); (try have y10 : w.heap.size < w1.heap.size := (by omega)); (try have y10p : w.heap.size < w1.heap.size + 1 := (by omega)); (try have y11 : w.heap.size + 1 < w1.heap.size := (by omega)); (try have y11p : w.heap.size + 1 < w1.heap.size + 1 := (by omega)); (try have y12 : w.heap.size + 1 + 1 < w1.heap.size := (by omega)); (try have y12p : w.heap.size + 1 + 1 < w1.heap.size + 1 := (by omega)); (try have v0x1 : w0.heap.size < w1.heap.size := (by omega)); (try have v0x1p : w0.heap.size < w1.heap.size + 1 := (by omega)))
          | (go_at_call 33; refine (h3 _).mono ?_; rintro e w2 ⟨rfl, hb2⟩; obtain ⟨hc2, hf2⟩ := bcell hb2; have hz2 := hb2.size; (try simp at hz2); (try have y20 : w.heap.size < w2.heap.size := (by omega)); (try have y20p : w.heap.size < w2.heap.size + 1 := (by omega)); (try have y21 : w.heap.size + 1 < w2.heap.size := (by omega)); (try have y21p : w.heap.size + 1 < w2.heap.size + 1 := (by omega)); (try have y22 : w.heap.size + 1 + 1 < w2.heap.size := (by omega)); (try have y22p : w.heap.size + 1 + 1 < w2.heap.size + 1 := (by omega)); (try have v0x2 : w0.heap.size < w2.heap.size := (by omega)); (try have v0x2p : w0.heap.size < w2.heap.size + 1 := (by omega)); (try have v1x2 : w1.heap.size < w2.heap.size := (by omega)); (try have v1x2p : w1.heap.size < w2.heap.size + 1 := (by omega)))
          | (revert hb3; intro hb3; go_at_call 24; refine (HC.out (by omega) (by omega) (by omega) (by omega) (by omega) (by omega) _).mono ?_; rintro e w4 ⟨rfl, hb4⟩; obtain ⟨hc4, hf4⟩ := bcell hb4; have hz4 := hb4.size; (try simp at hz4); (try have y40 : w.heap.size < w4.heap.size := (by omega)); (try have y40p : w.heap.size < w4.heap.size + 1 := (by omega)); (try have y41 : w.heap.size + 1 < w4.heap.size := (by omega)); (try have y41p : w.heap.size + 1 < w4.heap.size + 1 := (by omega)); (try have y42 : w.heap.size + 1 + 1 < w4.heap.size := (by omega)); (try have y42p : w.heap.size + 1 + 1 < w4.heap.size + 1 := (by omega)); (try have v0x4 : w0.heap.size < w4.heap.size := (by omega)); (try have v0x4p : w0.heap.size < w4.heap.size + 1 := (by omega)); (try have v1x4 : w1.heap.size < w4.heap.size := (by omega)); (try have v1x4p : w1.heap.size < w4.heap.size + 1 := (by omega)); (try have v2x4 : w2.heap.size < w4.heap.size := (by omega)); (try have v2x4p : w2.heap.size < w4.heap.size + 1 := (by omega)); (try have v3x4 : w3.heap.size < w4.heap.size := (by omega)); (try have v3x4p : w3.heap.size < w4.heap.size + 1 := (by omega)))
          | (go_at_call 24; refine (h4 _).mono ?_; rintro e w3 ⟨rfl, hb3⟩; obtain ⟨hc3, hf3⟩ := bcell hb3; have hz3 := hb3.size; (try simp at hz3); (try have y30 : w.heap.size < w3.heap.size := (by omega)); (try have y30p : w.heap.size < w3.heap.size + 1 := (by omega)); (try have y31 : w.heap.size + 1 < w3.heap.size := (by omega)); (try have y31p : w.heap.size + 1 < w3.heap.size + 1 := (by omega)); (try have y32 : w.heap.size + 1 + 1 < w3.heap.size := (by omega)); (try have y32p : w.heap.size + 1 + 1 < w3.heap.size + 1 := (by omega)); (try have v0x3 : w0.heap.size < w3.heap.size := (by omega)); (try have v0x3p : w0.heap.size < w3.heap.size + 1 := (by omega)); (try have v1x3 : w1.heap.size < w3.heap.size := (by omega)); (try have v1x3p : w1.heap.size < w3.heap.size + 1 := (by omega)); (try have v2x3 : w2.heap.size < w3.heap.size := (by omega)); (try have v2x3p : w2.heap.size < w3.heap.size + 1 := (by omega))))
    all_goals
      go_ret
      refine ⟨ret_bool (by first | rfl | (simp <;> omega) | (have hq := HI.out (by omega) (by omega) (by omega) (by omega) (by omega) (by omega) (by first | omega | simpa using (by assumption : (S' != 1) = false)); first | (exfalso; omega) | (simp <;> omega))), ?_⟩
      clear HI
      repeat (first | with_reducible exact Below.refl _ _ | with_reducible refine Below.setCell ?_ ?_ _ | with_reducible refine Below.alloc ?_ ?_ _ | with_reducible refine Below.drew ?_ | with_reducible refine below_drewN ?_ _ | (refine Below.trans ?_ (bmono (by assumption) ?_)))
      all_goals (first | omega | (simp <;> omega))
  · have t1 : (S == 1) = false := by simpa using hS
    clear hS
    go_enter Try.func11, Try.ntmps11
    go_wp2_with (first
          | (go_at_call 17; refine (awake_any _).mono ?_; rintro e w1 ⟨rfl, hb1⟩; obtain ⟨hc1, hf1⟩ := bcell hb1; have hz1 := hb1.size; (try simp at hz1); (try have y10 : w.heap.size < w1.heap.size := (by omega)); (try have y10p : w.heap.size < w1.heap.size + 1 := (by omega)); (try have y11 : w.heap.size + 1 < w1.heap.size := (by omega)); (try have y11p : w.heap.size + 1 < w1.heap.size + 1 := (by omega)); (try have y12 : w.heap.size + 1 + 1 < w1.heap.size := (by omega)); (try have y12p : w.heap.size + 1 + 1 < w1.heap.size + 1 := (by omega)); (try have v0x1 : w0.heap.size < w1.heap.size := (by omega)); (try have v0x1p : w0.heap.size < w1.heap.size + 1 := (by omega)))
          | (go_at_call 33; refine (h3 _).mono ?_; rintro e w2 ⟨rfl, hb2⟩; obtain ⟨hc2, hf2⟩ := bcell hb2; have hz2 := hb2.size; (try simp at hz2); (try have y20 : w.heap.size < w2.heap.size := (by omega)); (try have y20p : w.heap.size < w2.heap.size + 1 := (by omega)); (try have y21 : w.heap.size + 1 < w2.heap.size := (by omega)); (try have y21p : w.heap.size + 1 < w2.heap.size + 1 := (by omega)); (try have y22 : w.heap.size + 1 + 1 < w2.heap.size := (by omega)); (try have y22p : w.heap.size + 1 + 1 < w2.heap.size + 1 := (by omega)); (try have v0x2 : w0.heap.size < w2.heap.size := (by omega)); (try have v0x2p : w0.heap.size < w2.heap.size + 1 := (by omega)); (try have v1x2 : w1.heap.size < w2.heap.size := (by omega)); (try have v1x2p : w1.heap.size < w2.heap.size + 1 := (by omega)))
          | (revert hb3; intro hb3; go_at_call 24; refine (HC.out (by omega) (by omega) (by omega) (by omega) (by omega) (by omega) _).mono ?_; rintro e w4 ⟨rfl, hb4⟩; obtain ⟨hc4, hf4⟩ := bcell hb4; have hz4 := hb4.size; (try simp at hz4); (try have y40 : w.heap.size < w4.heap.size := (by omega)); (try have y40p : w.heap.size < w4.heap.size + 1 := (by omega)); (try have y41 : w.heap.size + 1 < w4.heap.size := (by omega)); (try have y41p : w.heap.size + 1 < w4.heap.size + 1 := (by omega)); (try have y42 : w.heap.size + 1 + 1 < w4.heap.size := (by omega)); (try have y42p : w.heap.size + 1 + 1 < w4.heap.size + 1 := (by omega)); (try have v0x4 : w0.heap.size < w4.heap.size := (by omega)); (try have v0x4p : w0.heap.size < w4.heap.size + 1 := (by omega)); (try have v1x4 : w1.heap.size < w4.heap.size := (by omega)); (try have v1x4p : w1.heap.size < w4.heap.size + 1 := (by omega)); (try have v2x4 : w2.heap.size < w4.heap.size := (by omega)); (try have v2x4p : w2.heap.size < w4.heap.size + 1 := (by omega)); (try have v3x4 : w3.heap.size < w4.heap.size := (by omega)); (try have v3x4p : w3.heap.size < w4.heap.size + 1 := (by omega)))
          | (go_at_call 24; refine (h4 _).mono ?_; rintro e w3 ⟨rfl, hb3⟩; obtain ⟨hc3, hf3⟩ := bcell hb3; have hz3 := hb3.size; (try simp at hz3); (try have y30 : w.heap.size < w3.heap.size := (by omega)); (try have y30p : w.heap.size < w3.heap.size + 1 := (by omega)); (try have y31 : w.heap.size + 1 < w3.heap.size := (by omega)); (try have y31p : w.heap.size + 1 < w3.heap.size + 1 := (by omega)); (try have y32 : w.heap.size + 1 + 1 < w3.heap.size := (by omega)); (try have y32p : w.heap.size + 1 + 1 < w3.heap.size + 1 := (by omega)); (try have v0x3 : w0.heap.size < w3.heap.size := (by omega)); (try have v0x3p : w0.heap.size < w3.heap.size + 1 := (by omega)); (try have v1x3 : w1.heap.size < w3.heap.size := (by omega)); (try have v1x3p : w1.heap.size < w3.heap.size + 1 := (by omega)); (try have v2x3 : w2.heap.size < w3.heap.size := (by omega)); (try have v2x3p : w2.heap.size < w3.heap.size + 1 := (by omega))))
    all_goals
      go_ret
      refine ⟨ret_bool (by first | rfl | (simp <;> omega) | (have hq := HI.out (by omega) (by omega) (by omega) (by omega) (by omega) (by omega) (by first | omega | simpa using (by assumption : (S' != 1) = false)); first | (exfalso; omega) | (simp <;> omega))), ?_⟩
      clear HI
      repeat (first | with_reducible exact Below.refl _ _ | with_reducible refine Below.setCell ?_ ?_ _ | with_reducible refine Below.alloc ?_ ?_ _ | with_reducible refine Below.drew ?_ | with_reducible refine below_drewN ?_ _ | (refine Below.trans ?_ (bmono (by assumption) ?_)))
      all_goals (first | omega | (simp <;> omega))
theorem side_one' {s t : Int} : sideI s t = 1 ↔ t ≤ 0 := by unfold sideI; (repeat' split) <;> omega
theorem cell_ok {a b c d x y z p q r i j k : Int} (h : eHB a b c d x y z p q r = 0) (i0 : x ≤ i) (i1 : i < p) (j0 : y ≤ j) (j1 : j < q) (k0 : z ≤ k) (k1 : k < r) : eHB a b c d i j k (i + 1) (j + 1) (k + 1) = 0 := by
  have v := val_of h
  have b1 := inC_iff.1 v.cx; have b2 := inC_iff.1 v.cy; have b3 := inC_iff.1 v.cz; have b4 := inC_iff.1 v.cp; have b5 := inC_iff.1 v.cq; have b6 := inC_iff.1 v.cr
  unfold eHB
  rw [if_pos (eHB_zero h).1, eB_in (inC_iff.2 (by omega)) (inC_iff.2 (by omega)) (inC_iff.2 (by omega)) (inC_iff.2 (by omega)) (inC_iff.2 (by omega)) (inC_iff.2 (by omega)), if_neg]
  rw [empB_iff]; omega
theorem side_ne {s t : Int} (h : 0 < t) : sideI s t ≠ 1 := fun e => by have := side_one'.1 e; omega
set_option maxHeartbeats 4000000 in
set_option maxRecDepth 100000 in
theorem planeCells_any (a b c d x y z p q r i j k : Int) (w : World) :
    Calls Try.prog 11 #[.agg #[.int .i64 a, .int .i64 b, .int .i64 c, .int .i64 d], .agg #[.int .i64 x, .int .i64 y, .int .i64 z, .int .i64 p, .int .i64 q, .int .i64 r], .agg #[.int .i64 i, .int .i64 j, .int .i64 k]] w fun e w' => e = .returned (.bool true) ∧ Below w.heap.size w w' := by
  by_cases h : eHB a b c d x y z p q r = 0
  · have v := val_of h
    have b1 := inC_iff.1 v.cx; have b2 := inC_iff.1 v.cy; have b3 := inC_iff.1 v.cz; have b4 := inC_iff.1 v.cp; have b5 := inC_iff.1 v.cq; have b6 := inC_iff.1 v.cr
    have h4 := Side_ok a b c d x y z p q r h
    have hc : x ≤ i → i < p → y ≤ j → j < q → z ≤ k → k < r → ∀ w, Calls Try.prog 24 #[.agg #[.int .i64 a, .int .i64 b, .int .i64 c, .int .i64 d], .agg #[.int .i64 i, .int .i64 j, .int .i64 k, .int .i64 (i + 1), .int .i64 (j + 1), .int .i64 (k + 1)]] w fun e w' => e = .returned (.tuple #[.int .i64 (sideI (loS a b c d i j k (i + 1) (j + 1) (k + 1)) (hiS a b c d i j k (i + 1) (j + 1) (k + 1))), .int .i64 0]) ∧ Below w.heap.size w w' :=
      fun i0 i1 j0 j1 k0 k1 => Side_ok a b c d i j k (i + 1) (j + 1) (k + 1) (cell_ok h i0 i1 j0 j1 k0 k1)
    rcases Int.lt_or_le (slk a b c d x y z p q r) 0 with hs | hs
    · refine planeCells_gen a b c d x y z p q r i j k 9 _ _ 0 0 0 0 0 0 (Hull_none a b c d x y z p q r h hs) h4 hc (fun i0 i1 j0 j1 k0 k1 e => ?_) b4.2 b5.2 b6.2 b1.1 b2.1 b3.1 (.inr (.inr ⟨fun e => ?_, rfl⟩)) w
      · have := (cell_in i0 i1 j0 j1 k0 k1 (side_one'.1 e)).1
        omega
      · have := (box_hull v.lx v.ly v.lz (side_one'.1 e)).1
        omega
    · refine planeCells_gen a b c d x y z p q r i j k 0 _ _ _ _ _ _ _ _ (Hull_ok a b c d x y z p q r h hs) h4 hc (fun i0 i1 j0 j1 k0 k1 e => ?_) b4.2 b5.2 b6.2 b1.1 b2.1 b3.1 ?_ w
      · obtain ⟨_, ⟨u1, v1⟩, ⟨u2, v2⟩, u3, v3⟩ := cell_in i0 i1 j0 j1 k0 k1 (side_one'.1 e)
        exact ⟨rfl, u1, v1, u2, v2, u3, v3⟩
      · rcases Int.lt_or_le 0 (hiS a b c d x y z p q r) with ht | ht
        · have w1 := sp_in (f := a) (lo := x) (hi := p) hs
          have w2 := sp_in (f := b) (lo := y) (hi := q) hs
          have w3 := sp_in (f := c) (lo := z) (hi := r) hs
          exact .inr (.inl ⟨side_ne ht, rfl, ⟨w1.1, w2.1, w3.1⟩, w1.2, w2.2, w3.2⟩)
        · obtain ⟨_, g1, g2⟩ := box_hull v.lx v.ly v.lz ht
          exact .inl ⟨side_one'.2 ht, rfl, g1, g2⟩
  · have h3 := Hull_bad a b c d x y z p q r h
    have h4 := Side_bad a b c d x y z p q r h
    generalize eHB a b c d x y z p q r = er at h3 h4 h
    obtain ⟨t1, t2⟩ := ne_tests h
    clear h
    go_enter Try.func11, Try.ntmps11
    go_wp2_with (first
      | (go_at_call 17; refine (awake_any _).mono ?_; rintro e w1 ⟨rfl, hb1⟩; obtain ⟨hc1, hf1⟩ := bcell hb1; have hz1 := hb1.size; (try simp at hz1); (try have y10 : w.heap.size < w1.heap.size := (by omega)); (try have y10p : w.heap.size < w1.heap.size + 1 := (by omega)); (try have y11 : w.heap.size + 1 < w1.heap.size := (by omega)); (try have y11p : w.heap.size + 1 < w1.heap.size + 1 := (by omega)); (try have y12 : w.heap.size + 1 + 1 < w1.heap.size := (by omega)); (try have y12p : w.heap.size + 1 + 1 < w1.heap.size + 1 := (by omega)); (try have v0x1 : w0.heap.size < w1.heap.size := (by omega)); (try have v0x1p : w0.heap.size < w1.heap.size + 1 := (by omega)))
      | (go_at_call 33; refine (h3 _).mono ?_; rintro e w2 ⟨rfl, hb2⟩; obtain ⟨hc2, hf2⟩ := bcell hb2; have hz2 := hb2.size; (try simp at hz2); (try have y20 : w.heap.size < w2.heap.size := (by omega)); (try have y20p : w.heap.size < w2.heap.size + 1 := (by omega)); (try have y21 : w.heap.size + 1 < w2.heap.size := (by omega)); (try have y21p : w.heap.size + 1 < w2.heap.size + 1 := (by omega)); (try have y22 : w.heap.size + 1 + 1 < w2.heap.size := (by omega)); (try have y22p : w.heap.size + 1 + 1 < w2.heap.size + 1 := (by omega)); (try have v0x2 : w0.heap.size < w2.heap.size := (by omega)); (try have v0x2p : w0.heap.size < w2.heap.size + 1 := (by omega)); (try have v1x2 : w1.heap.size < w2.heap.size := (by omega)); (try have v1x2p : w1.heap.size < w2.heap.size + 1 := (by omega)))
      | (go_at_call 24; refine (h4 _).mono ?_; rintro e w3 ⟨rfl, hb3⟩; obtain ⟨hc3, hf3⟩ := bcell hb3; have hz3 := hb3.size; (try simp at hz3); (try have y30 : w.heap.size < w3.heap.size := (by omega)); (try have y30p : w.heap.size < w3.heap.size + 1 := (by omega)); (try have y31 : w.heap.size + 1 < w3.heap.size := (by omega)); (try have y31p : w.heap.size + 1 < w3.heap.size + 1 := (by omega)); (try have y32 : w.heap.size + 1 + 1 < w3.heap.size := (by omega)); (try have y32p : w.heap.size + 1 + 1 < w3.heap.size + 1 := (by omega)); (try have v0x3 : w0.heap.size < w3.heap.size := (by omega)); (try have v0x3p : w0.heap.size < w3.heap.size + 1 := (by omega)); (try have v1x3 : w1.heap.size < w3.heap.size := (by omega)); (try have v1x3p : w1.heap.size < w3.heap.size + 1 := (by omega)); (try have v2x3 : w2.heap.size < w3.heap.size := (by omega)); (try have v2x3p : w2.heap.size < w3.heap.size + 1 := (by omega))))
    go_ret
    refine ⟨rfl, ?_⟩
    repeat (first | with_reducible exact Below.refl _ _ | with_reducible refine Below.setCell ?_ ?_ _ | with_reducible refine Below.alloc ?_ ?_ _ | with_reducible refine Below.drew ?_ | with_reducible refine below_drewN ?_ _ | (refine Below.trans ?_ (bmono (by assumption) ?_)))
    all_goals (first | omega | (simp <;> omega))

set_option maxHeartbeats 800000 in
set_option maxRecDepth 100000 in
theorem planeCells_lifted (os : Os) (started : os.Started) (H : Type) (enc : TypeId × Value → H) :
    ReturnsInHanded {} Try.checked os 11 .any (Rows.planeCellsSpec.pre6 enc Try.prog Try.f11 Rows.planeCellsRow.domain false) (Rows.planeCellsSpec.post enc Try.prog Try.f11 false true false false) := by
  refine returnsInHanded_of_change (C := Try.checked) Try.own started (by kernel_rfl) Try.func11
    (ChangeSpec.witness6 (enc := enc) (C := Try.checked) false ⟨#[], #[.agg #[.int .i64 0, .int .i64 0, .int .i64 0, .int .i64 0], .agg #[.int .i64 0, .int .i64 0, .int .i64 0, .int .i64 0, .int .i64 0, .int .i64 0], .agg #[.int .i64 0, .int .i64 0, .int .i64 0]], []⟩ 8 (by kernel_rfl) (by kernel_rfl) (by kernel_rfl) (by kernel_rfl)) ?_
  intro W base args ds gs before hval0 hW _ _
  have hval : ∀ (j : Nat) t v, Try.f11.params[j]? = some t → args[j]? = some v → Value.okWide Try.prog W .any base t v := hval0
  have hW' := hW
  obtain ⟨p, q, hA0, hV, rfl, _, _⟩ := hW
  have hA : DataW.TrodAll enc Try.prog W 0 (fun _ => true) true Try.f11.params.toList args.toList ds p := hA0
  rw [Try.params11] at hA hval
  obtain ⟨v0, v1, v2, d0, d1, d2, p0, p1, p2, rfl, rfl, rfl, h0, h1, h2⟩ := trodAll_three hA
  obtain ⟨rfl, rfl⟩ := trodVars_none hV
  clear hA0 hval0
  simp only [List.append_nil] at hW'
  have harg0 : ∀ W' : World, Below W.heap.size W W' → DataW.Trod enc Try.prog W' 0 (fun b => decide (b < W.heap.size)) true 32 v0 d0 p0 :=
    fun W' hn => Below.trod Try.laidOut (by kernel_rfl) (of_decide_eq_true (by kernel_rfl)) h0 hn (fun y hy => by simpa using hW'.lt y (by simp [hy]))
  have harg1 : ∀ W' : World, Below W.heap.size W W' → DataW.Trod enc Try.prog W' 0 (fun b => decide (b < W.heap.size)) true 42 v1 d1 p1 :=
    fun W' hn => Below.trod Try.laidOut (by kernel_rfl) (of_decide_eq_true (by kernel_rfl)) h1 hn (fun y hy => by simpa using hW'.lt y (by simp [hy]))
  have harg2 : ∀ W' : World, Below W.heap.size W W' → DataW.Trod enc Try.prog W' 0 (fun b => decide (b < W.heap.size)) true 34 v2 d2 p2 :=
    fun W' hn => Below.trod Try.laidOut (by kernel_rfl) (of_decide_eq_true (by kernel_rfl)) h2 hn (fun y hy => by simpa using hW'.lt y (by simp [hy]))
  obtain ⟨a, b, c, d, rfl⟩ := open_half (hval 0 32 v0 rfl rfl) h0
  obtain ⟨x, y, z, p, q, r, rfl⟩ := open_box (hval 1 42 v1 rfl rfl) h1
  obtain ⟨i, j, k, rfl⟩ := open_vec (hval 2 34 v2 rfl rfl) h2
  refine (planeCells_any a b c d x y z p q r i j k W).mono fun e W' ⟨he, hn⟩ => ?_
  subst he
  exact ⟨_, rfl, _, _, _, [], _, [], hW', trodAll_mk1 (shut_bool Try.underlying4 _), trodAll_mk3 (harg0 _ hn) (harg1 _ hn) (harg2 _ hn), (List.append_nil _).symm, hn.frame _, fun h => by cases h⟩

theorem planeCells_holds : Rows.PlaneCellsSaid :=
  OpenClaim.holds_of_wide 11 Try.f11 rfl rfl rfl rfl rfl rfl rfl ⟨rfl, rfl, rfl, rfl, rfl⟩ rfl rfl rfl rfl rfl (by kernel_rfl) Try.func11 (by kernel_rfl)
    (of_decide_eq_true (by kernel_rfl)) (by unfold Func.isWrapper; first | (rw [if_pos (by decide +kernel)]; kernel_rfl) | (rw [if_neg (by decide +kernel)]; exact ⟨rfl, rfl⟩))
    (fun os started H enc _ => planeCells_lifted os started H enc)
end Go.Proofs.Ytoeniaafcnnnoaa
