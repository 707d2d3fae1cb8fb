/- The law PlaneValues: it answers true, whatever the half-space and the point; and the claim. -/
import Derived.Test.YtoeniaafcnnnoaaAwp
import Derived.Test.YtoeniaafcnnnoaaLif
namespace Go.Proofs.Ytoeniaafcnnnoaa
open Go.ChangeShapes Go.WideShapes Go.ChangeAt Go.RowKit

set_option maxHeartbeats 8000000 in
set_option maxRecDepth 100000 in
theorem planeValues_gen (a b c d x y z e n : Int) (E : Bool) (hv : ∀ w, Calls Try.prog 18 #[.agg #[.int .i64 a, .int .i64 b, .int .i64 c, .int .i64 d], .agg #[.int .i64 x, .int .i64 y, .int .i64 z]] w fun r w' => r = .returned (.tuple #[.int .i64 n, .int .i64 e]) ∧ Below w.heap.size w w')
    (k : Int) (h1 : ∀ w, Calls Try.prog 19 #[.agg #[.int .i64 a, .int .i64 b, .int .i64 c, .int .i64 d]] w fun r w' => r = .returned (.int .i64 k) ∧ Below w.heap.size w w') (h2 : ∀ w, Calls Try.prog 20 #[.agg #[.int .i64 a, .int .i64 b, .int .i64 c, .int .i64 d]] w fun r w' => r = .returned (.int .i64 k) ∧ Below w.heap.size w w')
    (hi : ∀ w, Calls Try.prog 21 #[.agg #[.int .i64 x, .int .i64 y, .int .i64 z]] w fun r w' => r = .returned (.bool E) ∧ Below w.heap.size w w') (m : Int) (hr : E = true → k = 0 → ∀ w, Calls Try.prog 22 #[.agg #[.int .i64 a, .int .i64 b, .int .i64 c, .int .i64 d], .agg #[.int .i64 x, .int .i64 y, .int .i64 z]] w fun r w' => r = .returned (.int .i64 m) ∧ Below w.heap.size w w')
    (cs : (k ≠ 0 ∧ e = k ∧ n = 0) ∨ (k = 0 ∧ E = false ∧ e = 6 ∧ n = 0) ∨ (k = 0 ∧ E = true ∧ e = 0 ∧ n = m)) (w : World) :
    Calls Try.prog 4 #[.agg #[.int .i64 a, .int .i64 b, .int .i64 c, .int .i64 d], .agg #[.int .i64 x, .int .i64 y, .int .i64 z]] w fun r w' => r = .returned (.bool true) ∧ Below w.heap.size w w' := by
  have q1 : ∀ W, KHV a b c d x y z w W → Calls Try.prog 19 #[.agg #[.int .i64 a, .int .i64 b, .int .i64 c, .int .i64 d]] W _ := keepsKL h1
  have q2 : ∀ W, KHV a b c d x y z w W → Calls Try.prog 20 #[.agg #[.int .i64 a, .int .i64 b, .int .i64 c, .int .i64 d]] W _ := keepsKL h2
  rcases cs with ⟨hk, rfl, rfl⟩ | ⟨rfl, rfl, rfl, rfl⟩ | ⟨rfl, rfl, rfl, rfl⟩
  · obtain ⟨t1, t2⟩ := ne_tests hk
    clear hk hr
    go_enter Try.func4, Try.ntmps4
    go_wp2_with (first
      | (go_at_call 17; refine (awake_any _).mono ?_; rintro e w1 ⟨rfl, hb1⟩; obtain ⟨hc1, hf1⟩ := bcell hb1; have hz1 := hb1.size; (try simp at hz1); (try have y10 : w.heap.size < w1.heap.size := (by omega)); (try have y10p : w.heap.size < w1.heap.size + 1 := (by omega)); (try have y11 : w.heap.size + 1 < w1.heap.size := (by omega)); (try have y11p : w.heap.size + 1 < w1.heap.size + 1 := (by omega)); (try have y12 : w.heap.size + 1 + 1 < w1.heap.size := (by omega)); (try have y12p : w.heap.size + 1 + 1 < w1.heap.size + 1 := (by omega)); (try have v0x1 : w0.heap.size < w1.heap.size := (by omega)); (try have v0x1p : w0.heap.size < w1.heap.size + 1 := (by omega)))
      | (go_at_call 18; refine (hv _).mono ?_; rintro e w2 ⟨rfl, hb2⟩; obtain ⟨hc2, hf2⟩ := bcell hb2; have hz2 := hb2.size; (try simp at hz2); (try have y20 : w.heap.size < w2.heap.size := (by omega)); (try have y20p : w.heap.size < w2.heap.size + 1 := (by omega)); (try have y21 : w.heap.size + 1 < w2.heap.size := (by omega)); (try have y21p : w.heap.size + 1 < w2.heap.size + 1 := (by omega)); (try have y22 : w.heap.size + 1 + 1 < w2.heap.size := (by omega)); (try have y22p : w.heap.size + 1 + 1 < w2.heap.size + 1 := (by omega)); (try have v0x2 : w0.heap.size < w2.heap.size := (by omega)); (try have v0x2p : w0.heap.size < w2.heap.size + 1 := (by omega)); (try have v1x2 : w1.heap.size < w2.heap.size := (by omega)); (try have v1x2p : w1.heap.size < w2.heap.size + 1 := (by omega))))
    have hk2 : KHV a b c d x y z w w2 := KL.over (KL.over KHV.start hb1) hb2
    have hka := hk2.alls
    clear hb1 hc1 hf1 hb2 hc2 hf2
    go_region_held3 (fun W => KHV a b c d x y z w W ∧ w.heap.size + 1 < W.heap.size ∧
        W.cell? ⟨w.heap.size, 0, none⟩ = some (.int .i64 a) ∧ W.cell? ⟨w.heap.size, 1, none⟩ = some (.int .i64 b) ∧ W.cell? ⟨w.heap.size, 2, none⟩ = some (.int .i64 c) ∧ W.cell? ⟨w.heap.size, 3, none⟩ = some (.int .i64 d) ∧
        W.cell? ⟨w.heap.size + 1, 0, none⟩ = some (.int .i64 x) ∧ W.cell? ⟨w.heap.size + 1, 1, none⟩ = some (.int .i64 y) ∧ W.cell? ⟨w.heap.size + 1, 2, none⟩ = some (.int .i64 z))
      (first | exact hka | exact KHV.alls ‹_› | exact (KHV.alls (KL.drew ‹_›)))
      (first
        | (go_at_call 19; refine (q1 _ ?_).mono ?_; (first | assumption | exact And.left ‹_›); rintro e w3 ⟨rfl, hk3, hb3⟩)
        | (go_at_call 20; refine (q2 _ ?_).mono ?_; (first | assumption | exact And.left ‹_›); rintro e w4 ⟨rfl, hk4, hb4⟩))
    obtain ⟨hk5, hz5, g1, g2, g3, g4, g5, g6, g7⟩ := KHV.alls ‹KHV a b c d x y z w w4›
    have hbw := hk5.1
    have yy0 : w.heap.size < w4.heap.size := by omega
    clear hka hk2 hk5 q1 q2
    go_wp2_with (first
      | (go_at_call 20; refine (h2 _).mono ?_; rintro e w5 ⟨rfl, hb5⟩; obtain ⟨hc5, hf5⟩ := bcell hb5; have hz5 := hb5.size; (try simp at hz5); (try have y50 : w.heap.size < w5.heap.size := (by omega)); (try have y50p : w.heap.size < w5.heap.size + 1 := (by omega)); (try have y51 : w.heap.size + 1 < w5.heap.size := (by omega)); (try have y51p : w.heap.size + 1 < w5.heap.size + 1 := (by omega)); (try have y52 : w.heap.size + 1 + 1 < w5.heap.size := (by omega)); (try have y52p : w.heap.size + 1 + 1 < w5.heap.size + 1 := (by omega)); (try have v0x5 : w0.heap.size < w5.heap.size := (by omega)); (try have v0x5p : w0.heap.size < w5.heap.size + 1 := (by omega)); (try have v1x5 : w1.heap.size < w5.heap.size := (by omega)); (try have v1x5p : w1.heap.size < w5.heap.size + 1 := (by omega)); (try have v2x5 : w2.heap.size < w5.heap.size := (by omega)); (try have v2x5p : w2.heap.size < w5.heap.size + 1 := (by omega)); (try have v3x5 : w3.heap.size < w5.heap.size := (by omega)); (try have v3x5p : w3.heap.size < w5.heap.size + 1 := (by omega)); (try have v4x5 : w4.heap.size < w5.heap.size := (by omega)); (try have v4x5p : w4.heap.size < w5.heap.size + 1 := (by omega))))
    go_ret
    refine ⟨rfl, ?_⟩
    repeat (first | exact hbw | with_reducible refine Below.drew ?_ | (refine Below.trans ?_ (bmono (by assumption) ?_)))
    all_goals (first | omega | (simp <;> omega))
  · clear hr
    go_enter Try.func4, Try.ntmps4
    go_wp2_with (first
      | (go_at_call 17; refine (awake_any _).mono ?_; rintro e w1 ⟨rfl, hb1⟩; obtain ⟨hc1, hf1⟩ := bcell hb1; have hz1 := hb1.size; (try simp at hz1); (try have y10 : w.heap.size < w1.heap.size := (by omega)); (try have y10p : w.heap.size < w1.heap.size + 1 := (by omega)); (try have y11 : w.heap.size + 1 < w1.heap.size := (by omega)); (try have y11p : w.heap.size + 1 < w1.heap.size + 1 := (by omega)); (try have y12 : w.heap.size + 1 + 1 < w1.heap.size := (by omega)); (try have y12p : w.heap.size + 1 + 1 < w1.heap.size + 1 := (by omega)); (try have v0x1 : w0.heap.size < w1.heap.size := (by omega)); (try have v0x1p : w0.heap.size < w1.heap.size + 1 := (by omega)))
      | (go_at_call 18; refine (hv _).mono ?_; rintro e w2 ⟨rfl, hb2⟩; obtain ⟨hc2, hf2⟩ := bcell hb2; have hz2 := hb2.size; (try simp at hz2); (try have y20 : w.heap.size < w2.heap.size := (by omega)); (try have y20p : w.heap.size < w2.heap.size + 1 := (by omega)); (try have y21 : w.heap.size + 1 < w2.heap.size := (by omega)); (try have y21p : w.heap.size + 1 < w2.heap.size + 1 := (by omega)); (try have y22 : w.heap.size + 1 + 1 < w2.heap.size := (by omega)); (try have y22p : w.heap.size + 1 + 1 < w2.heap.size + 1 := (by omega)); (try have v0x2 : w0.heap.size < w2.heap.size := (by omega)); (try have v0x2p : w0.heap.size < w2.heap.size + 1 := (by omega)); (try have v1x2 : w1.heap.size < w2.heap.size := (by omega)); (try have v1x2p : w1.heap.size < w2.heap.size + 1 := (by omega))))
    have hk2 : KHV a b c d x y z w w2 := KL.over (KL.over KHV.start hb1) hb2
    have hka := hk2.alls
    clear hb1 hc1 hf1 hb2 hc2 hf2
    go_region_held3 (fun W => KHV a b c d x y z w W ∧ w.heap.size + 1 < W.heap.size ∧
        W.cell? ⟨w.heap.size, 0, none⟩ = some (.int .i64 a) ∧ W.cell? ⟨w.heap.size, 1, none⟩ = some (.int .i64 b) ∧ W.cell? ⟨w.heap.size, 2, none⟩ = some (.int .i64 c) ∧ W.cell? ⟨w.heap.size, 3, none⟩ = some (.int .i64 d) ∧
        W.cell? ⟨w.heap.size + 1, 0, none⟩ = some (.int .i64 x) ∧ W.cell? ⟨w.heap.size + 1, 1, none⟩ = some (.int .i64 y) ∧ W.cell? ⟨w.heap.size + 1, 2, none⟩ = some (.int .i64 z))
      (first | exact hka | exact KHV.alls ‹_› | exact (KHV.alls (KL.drew ‹_›)))
      (first
        | (go_at_call 19; refine (q1 _ ?_).mono ?_; (first | assumption | exact And.left ‹_›); rintro e w3 ⟨rfl, hk3, hb3⟩)
        | (go_at_call 20; refine (q2 _ ?_).mono ?_; (first | assumption | exact And.left ‹_›); rintro e w4 ⟨rfl, hk4, hb4⟩))
    obtain ⟨hk5, hz5, g1, g2, g3, g4, g5, g6, g7⟩ := KHV.alls ‹KHV a b c d x y z w w4›
    have hbw := hk5.1
    have yy0 : w.heap.size < w4.heap.size := by omega
    clear hka hk2 hk5 q1 q2
    go_wp2_with (first
      | (go_at_call 20; refine (h2 _).mono ?_; rintro e w5 ⟨rfl, hb5⟩; obtain ⟨hc5, hf5⟩ := bcell hb5; have hz5 := hb5.size; (try simp at hz5); (try have y50 : w.heap.size < w5.heap.size := (by omega)); (try have y50p : w.heap.size < w5.heap.size + 1 := (by omega)); (try have y51 : w.heap.size + 1 < w5.heap.size := (by omega)); (try have y51p : w.heap.size + 1 < w5.heap.size + 1 := (by omega)); (try have y52 : w.heap.size + 1 + 1 < w5.heap.size := (by omega)); (try have y52p : w.heap.size + 1 + 1 < w5.heap.size + 1 := (by omega)); (try have v0x5 : w0.heap.size < w5.heap.size := (by omega)); (try have v0x5p : w0.heap.size < w5.heap.size + 1 := (by omega)); (try have v1x5 : w1.heap.size < w5.heap.size := (by omega)); (try have v1x5p : w1.heap.size < w5.heap.size + 1 := (by omega)); (try have v2x5 : w2.heap.size < w5.heap.size := (by omega)); (try have v2x5p : w2.heap.size < w5.heap.size + 1 := (by omega)); (try have v3x5 : w3.heap.size < w5.heap.size := (by omega)); (try have v3x5p : w3.heap.size < w5.heap.size + 1 := (by omega)); (try have v4x5 : w4.heap.size < w5.heap.size := (by omega)); (try have v4x5p : w4.heap.size < w5.heap.size + 1 := (by omega)))
      | (go_at_call 21; refine (hi _).mono ?_; rintro e w6 ⟨rfl, hb6⟩; obtain ⟨hc6, hf6⟩ := bcell hb6; have hz6 := hb6.size; (try simp at hz6); (try have y60 : w.heap.size < w6.heap.size := (by omega)); (try have y60p : w.heap.size < w6.heap.size + 1 := (by omega)); (try have y61 : w.heap.size + 1 < w6.heap.size := (by omega)); (try have y61p : w.heap.size + 1 < w6.heap.size + 1 := (by omega)); (try have y62 : w.heap.size + 1 + 1 < w6.heap.size := (by omega)); (try have y62p : w.heap.size + 1 + 1 < w6.heap.size + 1 := (by omega)); (try have v0x6 : w0.heap.size < w6.heap.size := (by omega)); (try have v0x6p : w0.heap.size < w6.heap.size + 1 := (by omega)); (try have v1x6 : w1.heap.size < w6.heap.size := (by omega)); (try have v1x6p : w1.heap.size < w6.heap.size + 1 := (by omega)); (try have v2x6 : w2.heap.size < w6.heap.size := (by omega)); (try have v2x6p : w2.heap.size < w6.heap.size + 1 := (by omega)); (try have v3x6 : w3.heap.size < w6.heap.size := (by omega)); (try have v3x6p : w3.heap.size < w6.heap.size + 1 := (by omega)); (try have v4x6 : w4.heap.size < w6.heap.size := (by omega)); (try have v4x6p : w4.heap.size < w6.heap.size + 1 := (by omega)); (try have v5x6 : w5.heap.size < w6.heap.size := (by omega)); (try have v5x6p : w5.heap.size < w6.heap.size + 1 := (by omega))))
    go_ret
    refine ⟨rfl, ?_⟩
    repeat (first | exact hbw | with_reducible refine Below.drew ?_ | (refine Below.trans ?_ (bmono (by assumption) ?_)))
    all_goals (first | omega | (simp <;> omega))
  · have hr' := hr rfl rfl
    clear hr
    go_enter Try.func4, Try.ntmps4
    go_wp2_with (first
      | (go_at_call 17; refine (awake_any _).mono ?_; rintro e w1 ⟨rfl, hb1⟩; obtain ⟨hc1, hf1⟩ := bcell hb1; have hz1 := hb1.size; (try simp at hz1); (try have y10 : w.heap.size < w1.heap.size := (by omega)); (try have y10p : w.heap.size < w1.heap.size + 1 := (by omega)); (try have y11 : w.heap.size + 1 < w1.heap.size := (by omega)); (try have y11p : w.heap.size + 1 < w1.heap.size + 1 := (by omega)); (try have y12 : w.heap.size + 1 + 1 < w1.heap.size := (by omega)); (try have y12p : w.heap.size + 1 + 1 < w1.heap.size + 1 := (by omega)); (try have v0x1 : w0.heap.size < w1.heap.size := (by omega)); (try have v0x1p : w0.heap.size < w1.heap.size + 1 := (by omega)))
      | (go_at_call 18; refine (hv _).mono ?_; rintro e w2 ⟨rfl, hb2⟩; obtain ⟨hc2, hf2⟩ := bcell hb2; have hz2 := hb2.size; (try simp at hz2); (try have y20 : w.heap.size < w2.heap.size := (by omega)); (try have y20p : w.heap.size < w2.heap.size + 1 := (by omega)); (try have y21 : w.heap.size + 1 < w2.heap.size := (by omega)); (try have y21p : w.heap.size + 1 < w2.heap.size + 1 := (by omega)); (try have y22 : w.heap.size + 1 + 1 < w2.heap.size := (by omega)); (try have y22p : w.heap.size + 1 + 1 < w2.heap.size + 1 := (by omega)); (try have v0x2 : w0.heap.size < w2.heap.size := (by omega)); (try have v0x2p : w0.heap.size < w2.heap.size + 1 := (by omega)); (try have v1x2 : w1.heap.size < w2.heap.size := (by omega)); (try have v1x2p : w1.heap.size < w2.heap.size + 1 := (by omega))))
    have hk2 : KHV a b c d x y z w w2 := KL.over (KL.over KHV.start hb1) hb2
    have hka := hk2.alls
    clear hb1 hc1 hf1 hb2 hc2 hf2
    go_region_held3 (fun W => KHV a b c d x y z w W ∧ w.heap.size + 1 < W.heap.size ∧
        W.cell? ⟨w.heap.size, 0, none⟩ = some (.int .i64 a) ∧ W.cell? ⟨w.heap.size, 1, none⟩ = some (.int .i64 b) ∧ W.cell? ⟨w.heap.size, 2, none⟩ = some (.int .i64 c) ∧ W.cell? ⟨w.heap.size, 3, none⟩ = some (.int .i64 d) ∧
        W.cell? ⟨w.heap.size + 1, 0, none⟩ = some (.int .i64 x) ∧ W.cell? ⟨w.heap.size + 1, 1, none⟩ = some (.int .i64 y) ∧ W.cell? ⟨w.heap.size + 1, 2, none⟩ = some (.int .i64 z))
      (first | exact hka | exact KHV.alls ‹_› | exact (KHV.alls (KL.drew ‹_›)))
      (first
        | (go_at_call 19; refine (q1 _ ?_).mono ?_; (first | assumption | exact And.left ‹_›); rintro e w3 ⟨rfl, hk3, hb3⟩)
        | (go_at_call 20; refine (q2 _ ?_).mono ?_; (first | assumption | exact And.left ‹_›); rintro e w4 ⟨rfl, hk4, hb4⟩))
    obtain ⟨hk5, hz5, g1, g2, g3, g4, g5, g6, g7⟩ := KHV.alls ‹KHV a b c d x y z w w4›
    have hbw := hk5.1
    have yy0 : w.heap.size < w4.heap.size := by omega
    clear hka hk2 hk5 q1 q2
    go_wp2_with (first
      | (go_at_call 20; refine (h2 _).mono ?_; rintro e w5 ⟨rfl, hb5⟩; obtain ⟨hc5, hf5⟩ := bcell hb5; have hz5 := hb5.size; (try simp at hz5); (try have y50 : w.heap.size < w5.heap.size := (by omega)); (try have y50p : w.heap.size < w5.heap.size + 1 := (by omega)); (try have y51 : w.heap.size + 1 < w5.heap.size := (by omega)); (try have y51p : w.heap.size + 1 < w5.heap.size + 1 := (by omega)); (try have y52 : w.heap.size + 1 + 1 < w5.heap.size := (by omega)); (try have y52p : w.heap.size + 1 + 1 < w5.heap.size + 1 := (by omega)); (try have v0x5 : w0.heap.size < w5.heap.size := (by omega)); (try have v0x5p : w0.heap.size < w5.heap.size + 1 := (by omega)); (try have v1x5 : w1.heap.size < w5.heap.size := (by omega)); (try have v1x5p : w1.heap.size < w5.heap.size + 1 := (by omega)); (try have v2x5 : w2.heap.size < w5.heap.size := (by omega)); (try have v2x5p : w2.heap.size < w5.heap.size + 1 := (by omega)); (try have v3x5 : w3.heap.size < w5.heap.size := (by omega)); (try have v3x5p : w3.heap.size < w5.heap.size + 1 := (by omega)); (try have v4x5 : w4.heap.size < w5.heap.size := (by omega)); (try have v4x5p : w4.heap.size < w5.heap.size + 1 := (by omega)))
      | (go_at_call 21; refine (hi _).mono ?_; rintro e w6 ⟨rfl, hb6⟩; obtain ⟨hc6, hf6⟩ := bcell hb6; have hz6 := hb6.size; (try simp at hz6); (try have y60 : w.heap.size < w6.heap.size := (by omega)); (try have y60p : w.heap.size < w6.heap.size + 1 := (by omega)); (try have y61 : w.heap.size + 1 < w6.heap.size := (by omega)); (try have y61p : w.heap.size + 1 < w6.heap.size + 1 := (by omega)); (try have y62 : w.heap.size + 1 + 1 < w6.heap.size := (by omega)); (try have y62p : w.heap.size + 1 + 1 < w6.heap.size + 1 := (by omega)); (try have v0x6 : w0.heap.size < w6.heap.size := (by omega)); (try have v0x6p : w0.heap.size < w6.heap.size + 1 := (by omega)); (try have v1x6 : w1.heap.size < w6.heap.size := (by omega)); (try have v1x6p : w1.heap.size < w6.heap.size + 1 := (by omega)); (try have v2x6 : w2.heap.size < w6.heap.size := (by omega)); (try have v2x6p : w2.heap.size < w6.heap.size + 1 := (by omega)); (try have v3x6 : w3.heap.size < w6.heap.size := (by omega)); (try have v3x6p : w3.heap.size < w6.heap.size + 1 := (by omega)); (try have v4x6 : w4.heap.size < w6.heap.size := (by omega)); (try have v4x6p : w4.heap.size < w6.heap.size + 1 := (by omega)); (try have v5x6 : w5.heap.size < w6.heap.size := (by omega)); (try have v5x6p : w5.heap.size < w6.heap.size + 1 := (by omega)))
      | (go_at_call 22; refine (hr' _).mono ?_; rintro e w7 ⟨rfl, hb7⟩; obtain ⟨hc7, hf7⟩ := bcell hb7; have hz7 := hb7.size; (try simp at hz7); (try have y70 : w.heap.size < w7.heap.size := (by omega)); (try have y70p : w.heap.size < w7.heap.size + 1 := (by omega)); (try have y71 : w.heap.size + 1 < w7.heap.size := (by omega)); (try have y71p : w.heap.size + 1 < w7.heap.size + 1 := (by omega)); (try have y72 : w.heap.size + 1 + 1 < w7.heap.size := (by omega)); (try have y72p : w.heap.size + 1 + 1 < w7.heap.size + 1 := (by omega)); (try have v0x7 : w0.heap.size < w7.heap.size := (by omega)); (try have v0x7p : w0.heap.size < w7.heap.size + 1 := (by omega)); (try have v1x7 : w1.heap.size < w7.heap.size := (by omega)); (try have v1x7p : w1.heap.size < w7.heap.size + 1 := (by omega)); (try have v2x7 : w2.heap.size < w7.heap.size := (by omega)); (try have v2x7p : w2.heap.size < w7.heap.size + 1 := (by omega)); (try have v3x7 : w3.heap.size < w7.heap.size := (by omega)); (try have v3x7p : w3.heap.size < w7.heap.size + 1 := (by omega)); (try have v4x7 : w4.heap.size < w7.heap.size := (by omega)); (try have v4x7p : w4.heap.size < w7.heap.size + 1 := (by omega)); (try have v5x7 : w5.heap.size < w7.heap.size := (by omega)); (try have v5x7p : w5.heap.size < w7.heap.size + 1 := (by omega)); (try have v6x7 : w6.heap.size < w7.heap.size := (by omega)); (try have v6x7p : w6.heap.size < w7.heap.size + 1 := (by omega))))
    go_ret
    refine ⟨rfl, ?_⟩
    repeat (first | exact hbw | with_reducible refine Below.drew ?_ | (refine Below.trans ?_ (bmono (by assumption) ?_)))
    all_goals (first | omega | (simp <;> omega))
theorem planeValues_any (a b c d x y z : Int) (w : World) :
    Calls Try.prog 4 #[.agg #[.int .i64 a, .int .i64 b, .int .i64 c, .int .i64 d], .agg #[.int .i64 x, .int .i64 y, .int .i64 z]] w fun r w' => r = .returned (.bool true) ∧ Below w.heap.size w w' := by
  by_cases hk : eH a b c d = 0
  · cases hv : inV x y z
    · exact planeValues_gen a b c d x y z _ _ _ (value_out a b c d x y z hk hv) _ (pcheck_any a b c d) (rcheck_any a b c d) (refIn_any x y z) 0 (fun h => by rw [hv] at h; cases h) (.inr (.inl ⟨hk, hv, rfl, rfl⟩)) w
    · exact planeValues_gen a b c d x y z _ _ _ (value_ok a b c d x y z hk hv) _ (pcheck_any a b c d) (rcheck_any a b c d) (refIn_any x y z) _ (fun _ _ => rvalue_in a b c d x y z (eH_zero hk).1 hv) (.inr (.inr ⟨hk, hv, rfl, rfl⟩)) w
  · exact planeValues_gen a b c d x y z _ _ _ (value_bad a b c d x y z hk) _ (pcheck_any a b c d) (rcheck_any a b c d) (refIn_any x y z) 0 (fun _ h => absurd h hk) (.inl ⟨hk, rfl, rfl⟩) w

set_option maxHeartbeats 800000 in
set_option maxRecDepth 100000 in
theorem planeValues_lifted (os : Os) (started : os.Started) (H : Type) (enc : TypeId × Value → H) :
    ReturnsInHanded {} Try.checked os 4 .any (Rows.planeValuesSpec.pre6 enc Try.prog Try.f4 Rows.planeValuesRow.domain false) (Rows.planeValuesSpec.post enc Try.prog Try.f4 false true false false) := by
  refine returnsInHanded_of_change (C := Try.checked) Try.own started (by kernel_rfl) Try.func4
    (ChangeSpec.witness6 (enc := enc) (C := Try.checked) false ⟨#[], #[.agg #[.int .i64 0, .int .i64 0, .int .i64 0, .int .i64 0], .agg #[.int .i64 0, .int .i64 0, .int .i64 0]], []⟩ 8 (by kernel_rfl) (by kernel_rfl) (by kernel_rfl) (by kernel_rfl)) ?_
  intro W base args ds gs before hval0 hW _ _
  have hval : ∀ (j : Nat) t v, Try.f4.params[j]? = some t → args[j]? = some v → Value.okWide Try.prog W .any base t v := hval0
  have hW' := hW
  obtain ⟨p, q, hA0, hV, rfl, _, _⟩ := hW
  have hA : DataW.TrodAll enc Try.prog W 0 (fun _ => true) true Try.f4.params.toList args.toList ds p := hA0
  rw [Try.params4] at hA hval
  obtain ⟨v0, v1, d0, d1, p0, p1, rfl, rfl, rfl, h0, h1⟩ := trodAll_two hA
  obtain ⟨rfl, rfl⟩ := trodVars_none hV
  clear hA0 hval0
  simp only [List.append_nil] at hW'
  have harg0 : ∀ W' : World, Below W.heap.size W W' → DataW.Trod enc Try.prog W' 0 (fun b => decide (b < W.heap.size)) true 32 v0 d0 p0 :=
    fun W' hn => Below.trod Try.laidOut (by kernel_rfl) (of_decide_eq_true (by kernel_rfl)) h0 hn (fun y hy => by simpa using hW'.lt y (by simp [hy]))
  have harg1 : ∀ W' : World, Below W.heap.size W W' → DataW.Trod enc Try.prog W' 0 (fun b => decide (b < W.heap.size)) true 34 v1 d1 p1 :=
    fun W' hn => Below.trod Try.laidOut (by kernel_rfl) (of_decide_eq_true (by kernel_rfl)) h1 hn (fun y hy => by simpa using hW'.lt y (by simp [hy]))
  obtain ⟨a, b, c, d, rfl⟩ := open_half (hval 0 32 v0 rfl rfl) h0
  obtain ⟨x, y, z, rfl⟩ := open_vec (hval 1 34 v1 rfl rfl) h1
  refine (planeValues_any a b c d x y z W).mono fun e W' ⟨he, hn⟩ => ?_
  subst he
  exact ⟨_, rfl, _, _, _, [], _, [], hW', trodAll_mk1 (shut_bool Try.underlying4 _), trodAll_mk2 (harg0 _ hn) (harg1 _ hn), (List.append_nil _).symm, hn.frame _, fun h => by cases h⟩

theorem planeValues_holds : Rows.PlaneValuesSaid :=
  OpenClaim.holds_of_wide 4 Try.f4 rfl rfl rfl rfl rfl rfl rfl ⟨rfl, rfl, rfl, rfl, rfl⟩ rfl rfl rfl rfl rfl (by kernel_rfl) Try.func4 (by kernel_rfl)
    (of_decide_eq_true (by kernel_rfl)) (by unfold Func.isWrapper; first | (rw [if_pos (by decide +kernel)]; kernel_rfl) | (rw [if_neg (by decide +kernel)]; exact ⟨rfl, rfl⟩))
    (fun os started H enc _ => planeValues_lifted os started H enc)
end Go.Proofs.Ytoeniaafcnnnoaa
