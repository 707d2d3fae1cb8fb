/- The law PlaneMoves: it answers true, whatever the half-space, the box, the direction and the distance; and the claim. -/
import Derived.Test.YtoeniaafcnnnoaaMov
import Derived.Test.YtoeniaafcnnnoaaLif
namespace Go.Proofs.Ytoeniaafcnnnoaa
open Go.ChangeShapes Go.WideShapes Go.ChangeAt Go.RowKit

theorem drK1 {a b c d x y z p q r : Int} {w W : World} (h : KHB a b c d x y z p q r w W) : KHB a b c d x y z p q r w W.drew := KL.drew h
theorem keepsKHB1 (a b c d x y z p q r : Int) (w : World) {f : FuncId} {args : Array Value} {v : Value} (h : ∀ W, Calls Try.prog f args W fun e w' => e = .returned v ∧ Below W.heap.size W w') :
    ∀ W, KHB a b c d x y z p q r w W → Calls Try.prog f args W fun e w' => e = .returned v ∧ KHB a b c d x y z p q r w w' ∧ Below W.heap.size W w' := fun W hk => (h W).mono fun _ _ ⟨he, hb⟩ => ⟨he, KL.over hk hb, hb⟩
set_option maxHeartbeats 16000000 in
set_option maxRecDepth 100000 in
theorem planeMoves_c1 (a b c d x y z p q r k m n x1 y1 z1 p1 q1 r1 x2 y2 z2 p2 q2 r2 sd1 e1 sd2 e2 : Int) (hk : 0 ≤ k) (hk5 : k ≤ 5) (hn : 0 ≤ n) (hnm : n ≤ m) (hm : m ≤ 1000000)
    (hd : ∀ w, Calls Try.prog 35 #[.agg #[.int .i64 a, .int .i64 b, .int .i64 c, .int .i64 d], .agg #[.int .i64 x, .int .i64 y, .int .i64 z, .int .i64 p, .int .i64 q, .int .i64 r], .int .i64 k, .int .i64 m] w fun e w' => e = .returned (.tuple #[.int .i64 n, .int .i64 0]) ∧ Below w.heap.size w w')
    (hm1 : ∀ w, Calls Try.prog 37 #[.agg #[.int .i64 x, .int .i64 y, .int .i64 z, .int .i64 p, .int .i64 q, .int .i64 r], .int .i64 k, .int .i64 n] w fun e w' => e = .returned (.agg #[.int .i64 x1, .int .i64 y1, .int .i64 z1, .int .i64 p1, .int .i64 q1, .int .i64 r1]) ∧ Below w.heap.size w w') (hs1 : ∀ w, Calls Try.prog 24 #[.agg #[.int .i64 a, .int .i64 b, .int .i64 c, .int .i64 d], .agg #[.int .i64 x1, .int .i64 y1, .int .i64 z1, .int .i64 p1, .int .i64 q1, .int .i64 r1]] w fun e w' => e = .returned (.tuple #[.int .i64 sd1, .int .i64 e1]) ∧ Below w.heap.size w w')
    (hm2 : ∀ w, Calls Try.prog 37 #[.agg #[.int .i64 x, .int .i64 y, .int .i64 z, .int .i64 p, .int .i64 q, .int .i64 r], .int .i64 k, .int .i64 (n + 1)] w fun e w' => e = .returned (.agg #[.int .i64 x2, .int .i64 y2, .int .i64 z2, .int .i64 p2, .int .i64 q2, .int .i64 r2]) ∧ Below w.heap.size w w') (hs2 : ∀ w, Calls Try.prog 24 #[.agg #[.int .i64 a, .int .i64 b, .int .i64 c, .int .i64 d], .agg #[.int .i64 x2, .int .i64 y2, .int .i64 z2, .int .i64 p2, .int .i64 q2, .int .i64 r2]] w fun e w' => e = .returned (.tuple #[.int .i64 sd2, .int .i64 e2]) ∧ Below w.heap.size w w')
    (c1 : e1 = 0 ∧ sd1 = 1) (c2 : n = m) (w : World) :
    Calls Try.prog 12 #[.agg #[.int .i64 a, .int .i64 b, .int .i64 c, .int .i64 d], .agg #[.int .i64 x, .int .i64 y, .int .i64 z, .int .i64 p, .int .i64 q, .int .i64 r], .int .i64 k, .int .i64 m] w fun e w' => e = .returned (.bool true) ∧ Below w.heap.size w w' := by
  obtain ⟨rfl, rfl⟩ := c1
  subst c2
  have q1 := keepsKHB1 a b c d x y z p q r w hm1
  have q2 := keepsKHB1 a b c d x y z p q r w hs1
  have q3 := keepsKHB1 a b c d x y z p q r w hm2
  have hwr : IntKind.i64.wrap (n + 1) = n + 1 := IntWalk.i64_in _ (by omega)
  have q4 := keepsKHB1 a b c d x y z p q r w hs2

  go_enter Try.func12, Try.ntmps12
  go_wp2_with (first
    | (go_at_call 17; refine (awake_any _).mono ?_; rintro e w1 ⟨rfl, hb1⟩; obtain ⟨hc1, hf1⟩ := bcell hb1; have hz1 := hb1.size; (try simp at hz1); (try have y10 : w.heap.size < w1.heap.size := (by omega)); (try have y10p : w.heap.size < w1.heap.size + 1 := (by omega)); (try have y11 : w.heap.size + 1 < w1.heap.size := (by omega)); (try have y11p : w.heap.size + 1 < w1.heap.size + 1 := (by omega)); (try have y12 : w.heap.size + 1 + 1 < w1.heap.size := (by omega)); (try have y12p : w.heap.size + 1 + 1 < w1.heap.size + 1 := (by omega)); (try have v0x1 : w0.heap.size < w1.heap.size := (by omega)); (try have v0x1p : w0.heap.size < w1.heap.size + 1 := (by omega)))
    | (go_at_call 35; refine (hd _).mono ?_; rintro e w2 ⟨rfl, hb2⟩; obtain ⟨hc2, hf2⟩ := bcell hb2; have hz2 := hb2.size; (try simp at hz2); (try have y20 : w.heap.size < w2.heap.size := (by omega)); (try have y20p : w.heap.size < w2.heap.size + 1 := (by omega)); (try have y21 : w.heap.size + 1 < w2.heap.size := (by omega)); (try have y21p : w.heap.size + 1 < w2.heap.size + 1 := (by omega)); (try have y22 : w.heap.size + 1 + 1 < w2.heap.size := (by omega)); (try have y22p : w.heap.size + 1 + 1 < w2.heap.size + 1 := (by omega)); (try have v0x2 : w0.heap.size < w2.heap.size := (by omega)); (try have v0x2p : w0.heap.size < w2.heap.size + 1 := (by omega)); (try have v1x2 : w1.heap.size < w2.heap.size := (by omega)); (try have v1x2p : w1.heap.size < w2.heap.size + 1 := (by omega))))
  have hk2 : KHB a b c d x y z p q r w w2 := KL.over (KL.over KHB.start hb1) hb2
  have hka := hk2.alls
  clear hb1 hc1 hf1 hb2 hc2 hf2
  go_region_held3 (fun W => KHB a b c d x y z p q r w W ∧ w.heap.size + 1 < W.heap.size ∧
      (W.cell? ⟨w.heap.size, 0, none⟩ = some (.int .i64 a) ∧ W.cell? ⟨w.heap.size, 1, none⟩ = some (.int .i64 b) ∧ W.cell? ⟨w.heap.size, 2, none⟩ = some (.int .i64 c) ∧ W.cell? ⟨w.heap.size, 3, none⟩ = some (.int .i64 d)) ∧
      W.cell? ⟨w.heap.size + 1, 0, none⟩ = some (.int .i64 x) ∧ W.cell? ⟨w.heap.size + 1, 1, none⟩ = some (.int .i64 y) ∧ W.cell? ⟨w.heap.size + 1, 2, none⟩ = some (.int .i64 z) ∧
      W.cell? ⟨w.heap.size + 1, 3, none⟩ = some (.int .i64 p) ∧ W.cell? ⟨w.heap.size + 1, 4, none⟩ = some (.int .i64 q) ∧ W.cell? ⟨w.heap.size + 1, 5, none⟩ = some (.int .i64 r))
        (first | with_reducible exact hka | exact KHB.alls (by with_reducible assumption) | exact (KHB.alls (drK1 (by with_reducible assumption))))
    (first
      | (go_at_call 37; refine (q1 _ ?_).mono ?_; (first | with_reducible assumption | with_reducible exact And.left ‹_›); rintro e w3 ⟨rfl, hk3, hb3⟩)
      | (go_at_call 24; refine (q2 _ ?_).mono ?_; (first | with_reducible assumption | with_reducible exact And.left ‹_›); rintro e w4 ⟨rfl, hk4, hb4⟩))
  have hk5 : KHB a b c d x y z p q r w w4 := hk4
  clear hka hk2 q1 q2
  have hka := hk5.alls
  go_wp2_with fail
  go_region_held3 (fun W => KHB a b c d x y z p q r w W ∧ w.heap.size + 1 < W.heap.size ∧
      (W.cell? ⟨w.heap.size, 0, none⟩ = some (.int .i64 a) ∧ W.cell? ⟨w.heap.size, 1, none⟩ = some (.int .i64 b) ∧ W.cell? ⟨w.heap.size, 2, none⟩ = some (.int .i64 c) ∧ W.cell? ⟨w.heap.size, 3, none⟩ = some (.int .i64 d)) ∧
      W.cell? ⟨w.heap.size + 1, 0, none⟩ = some (.int .i64 x) ∧ W.cell? ⟨w.heap.size + 1, 1, none⟩ = some (.int .i64 y) ∧ W.cell? ⟨w.heap.size + 1, 2, none⟩ = some (.int .i64 z) ∧
      W.cell? ⟨w.heap.size + 1, 3, none⟩ = some (.int .i64 p) ∧ W.cell? ⟨w.heap.size + 1, 4, none⟩ = some (.int .i64 q) ∧ W.cell? ⟨w.heap.size + 1, 5, none⟩ = some (.int .i64 r))
        (first | with_reducible exact hka | exact KHB.alls (by with_reducible assumption) | exact (KHB.alls (drK1 (by with_reducible assumption))))
    (first
      | (go_at_call 37; refine (q3 _ ?_).mono ?_; (first | with_reducible assumption | with_reducible exact And.left ‹_›); rintro e w5 ⟨rfl, hk6, hb5⟩)
      | (go_at_call 24; refine (q4 _ ?_).mono ?_; (first | with_reducible assumption | with_reducible exact And.left ‹_›); rintro e w6 ⟨rfl, hk7, hb6⟩))
  have hk8 : KHB a b c d x y z p q r w w6 := hk7
  go_wp2
  go_ret
  exact ⟨rfl, hk8.1⟩
theorem drK2 {a b c d x y z p q r : Int} {w W : World} (h : KHB a b c d x y z p q r w W) : KHB a b c d x y z p q r w W.drew := KL.drew h
theorem keepsKHB2 (a b c d x y z p q r : Int) (w : World) {f : FuncId} {args : Array Value} {v : Value} (h : ∀ W, Calls Try.prog f args W fun e w' => e = .returned v ∧ Below W.heap.size W w') :
    ∀ W, KHB a b c d x y z p q r w W → Calls Try.prog f args W fun e w' => e = .returned v ∧ KHB a b c d x y z p q r w w' ∧ Below W.heap.size W w' := fun W hk => (h W).mono fun _ _ ⟨he, hb⟩ => ⟨he, KL.over hk hb, hb⟩
set_option maxHeartbeats 16000000 in
set_option maxRecDepth 100000 in
theorem planeMoves_c2 (a b c d x y z p q r k m n x1 y1 z1 p1 q1 r1 x2 y2 z2 p2 q2 r2 sd1 e1 sd2 e2 : Int) (hk : 0 ≤ k) (hk5 : k ≤ 5) (hn : 0 ≤ n) (hnm : n ≤ m) (hm : m ≤ 1000000)
    (hd : ∀ w, Calls Try.prog 35 #[.agg #[.int .i64 a, .int .i64 b, .int .i64 c, .int .i64 d], .agg #[.int .i64 x, .int .i64 y, .int .i64 z, .int .i64 p, .int .i64 q, .int .i64 r], .int .i64 k, .int .i64 m] w fun e w' => e = .returned (.tuple #[.int .i64 n, .int .i64 0]) ∧ Below w.heap.size w w')
    (hm1 : ∀ w, Calls Try.prog 37 #[.agg #[.int .i64 x, .int .i64 y, .int .i64 z, .int .i64 p, .int .i64 q, .int .i64 r], .int .i64 k, .int .i64 n] w fun e w' => e = .returned (.agg #[.int .i64 x1, .int .i64 y1, .int .i64 z1, .int .i64 p1, .int .i64 q1, .int .i64 r1]) ∧ Below w.heap.size w w') (hs1 : ∀ w, Calls Try.prog 24 #[.agg #[.int .i64 a, .int .i64 b, .int .i64 c, .int .i64 d], .agg #[.int .i64 x1, .int .i64 y1, .int .i64 z1, .int .i64 p1, .int .i64 q1, .int .i64 r1]] w fun e w' => e = .returned (.tuple #[.int .i64 sd1, .int .i64 e1]) ∧ Below w.heap.size w w')
    (hm2 : ∀ w, Calls Try.prog 37 #[.agg #[.int .i64 x, .int .i64 y, .int .i64 z, .int .i64 p, .int .i64 q, .int .i64 r], .int .i64 k, .int .i64 (n + 1)] w fun e w' => e = .returned (.agg #[.int .i64 x2, .int .i64 y2, .int .i64 z2, .int .i64 p2, .int .i64 q2, .int .i64 r2]) ∧ Below w.heap.size w w') (hs2 : ∀ w, Calls Try.prog 24 #[.agg #[.int .i64 a, .int .i64 b, .int .i64 c, .int .i64 d], .agg #[.int .i64 x2, .int .i64 y2, .int .i64 z2, .int .i64 p2, .int .i64 q2, .int .i64 r2]] w fun e w' => e = .returned (.tuple #[.int .i64 sd2, .int .i64 e2]) ∧ Below w.heap.size w w')
    (c1 : e1 = 0 ∧ sd1 = 1) (f2 : n < m) (f3 : e2 ≠ 0) (w : World) :
    Calls Try.prog 12 #[.agg #[.int .i64 a, .int .i64 b, .int .i64 c, .int .i64 d], .agg #[.int .i64 x, .int .i64 y, .int .i64 z, .int .i64 p, .int .i64 q, .int .i64 r], .int .i64 k, .int .i64 m] w fun e w' => e = .returned (.bool true) ∧ Below w.heap.size w w' := by
  obtain ⟨rfl, rfl⟩ := c1
  obtain ⟨u1, u2⟩ := ne_tests f3
  clear f3
  have q1 := keepsKHB2 a b c d x y z p q r w hm1
  have q2 := keepsKHB2 a b c d x y z p q r w hs1
  have q3 := keepsKHB2 a b c d x y z p q r w hm2
  have hwr : IntKind.i64.wrap (n + 1) = n + 1 := IntWalk.i64_in _ (by omega)
  have q4 := keepsKHB2 a b c d x y z p q r w hs2

  go_enter Try.func12, Try.ntmps12
  go_wp2_with (first
    | (go_at_call 17; refine (awake_any _).mono ?_; rintro e w1 ⟨rfl, hb1⟩; obtain ⟨hc1, hf1⟩ := bcell hb1; have hz1 := hb1.size; (try simp at hz1); (try have y10 : w.heap.size < w1.heap.size := (by omega)); (try have y10p : w.heap.size < w1.heap.size + 1 := (by omega)); (try have y11 : w.heap.size + 1 < w1.heap.size := (by omega)); (try have y11p : w.heap.size + 1 < w1.heap.size + 1 := (by omega)); (try have y12 : w.heap.size + 1 + 1 < w1.heap.size := (by omega)); (try have y12p : w.heap.size + 1 + 1 < w1.heap.size + 1 := (by omega)); (try have v0x1 : w0.heap.size < w1.heap.size := (by omega)); (try have v0x1p : w0.heap.size < w1.heap.size + 1 := (by omega)))
    | (go_at_call 35; refine (hd _).mono ?_; rintro e w2 ⟨rfl, hb2⟩; obtain ⟨hc2, hf2⟩ := bcell hb2; have hz2 := hb2.size; (try simp at hz2); (try have y20 : w.heap.size < w2.heap.size := (by omega)); (try have y20p : w.heap.size < w2.heap.size + 1 := (by omega)); (try have y21 : w.heap.size + 1 < w2.heap.size := (by omega)); (try have y21p : w.heap.size + 1 < w2.heap.size + 1 := (by omega)); (try have y22 : w.heap.size + 1 + 1 < w2.heap.size := (by omega)); (try have y22p : w.heap.size + 1 + 1 < w2.heap.size + 1 := (by omega)); (try have v0x2 : w0.heap.size < w2.heap.size := (by omega)); (try have v0x2p : w0.heap.size < w2.heap.size + 1 := (by omega)); (try have v1x2 : w1.heap.size < w2.heap.size := (by omega)); (try have v1x2p : w1.heap.size < w2.heap.size + 1 := (by omega))))
  have hk2 : KHB a b c d x y z p q r w w2 := KL.over (KL.over KHB.start hb1) hb2
  have hka := hk2.alls
  clear hb1 hc1 hf1 hb2 hc2 hf2
  go_region_held3 (fun W => KHB a b c d x y z p q r w W ∧ w.heap.size + 1 < W.heap.size ∧
      (W.cell? ⟨w.heap.size, 0, none⟩ = some (.int .i64 a) ∧ W.cell? ⟨w.heap.size, 1, none⟩ = some (.int .i64 b) ∧ W.cell? ⟨w.heap.size, 2, none⟩ = some (.int .i64 c) ∧ W.cell? ⟨w.heap.size, 3, none⟩ = some (.int .i64 d)) ∧
      W.cell? ⟨w.heap.size + 1, 0, none⟩ = some (.int .i64 x) ∧ W.cell? ⟨w.heap.size + 1, 1, none⟩ = some (.int .i64 y) ∧ W.cell? ⟨w.heap.size + 1, 2, none⟩ = some (.int .i64 z) ∧
      W.cell? ⟨w.heap.size + 1, 3, none⟩ = some (.int .i64 p) ∧ W.cell? ⟨w.heap.size + 1, 4, none⟩ = some (.int .i64 q) ∧ W.cell? ⟨w.heap.size + 1, 5, none⟩ = some (.int .i64 r))
        (first | with_reducible exact hka | exact KHB.alls (by with_reducible assumption) | exact (KHB.alls (drK2 (by with_reducible assumption))))
    (first
      | (go_at_call 37; refine (q1 _ ?_).mono ?_; (first | with_reducible assumption | with_reducible exact And.left ‹_›); rintro e w3 ⟨rfl, hk3, hb3⟩)
      | (go_at_call 24; refine (q2 _ ?_).mono ?_; (first | with_reducible assumption | with_reducible exact And.left ‹_›); rintro e w4 ⟨rfl, hk4, hb4⟩))
  have hk5 : KHB a b c d x y z p q r w w4 := hk4
  clear hka hk2 q1 q2
  have hka := hk5.alls
  go_wp2_with fail
  go_region_held3 (fun W => KHB a b c d x y z p q r w W ∧ w.heap.size + 1 < W.heap.size ∧
      (W.cell? ⟨w.heap.size, 0, none⟩ = some (.int .i64 a) ∧ W.cell? ⟨w.heap.size, 1, none⟩ = some (.int .i64 b) ∧ W.cell? ⟨w.heap.size, 2, none⟩ = some (.int .i64 c) ∧ W.cell? ⟨w.heap.size, 3, none⟩ = some (.int .i64 d)) ∧
      W.cell? ⟨w.heap.size + 1, 0, none⟩ = some (.int .i64 x) ∧ W.cell? ⟨w.heap.size + 1, 1, none⟩ = some (.int .i64 y) ∧ W.cell? ⟨w.heap.size + 1, 2, none⟩ = some (.int .i64 z) ∧
      W.cell? ⟨w.heap.size + 1, 3, none⟩ = some (.int .i64 p) ∧ W.cell? ⟨w.heap.size + 1, 4, none⟩ = some (.int .i64 q) ∧ W.cell? ⟨w.heap.size + 1, 5, none⟩ = some (.int .i64 r))
        (first | with_reducible exact hka | exact KHB.alls (by with_reducible assumption) | exact (KHB.alls (drK2 (by with_reducible assumption))))
    (first
      | (go_at_call 37; refine (q3 _ ?_).mono ?_; (first | with_reducible assumption | with_reducible exact And.left ‹_›); rintro e w5 ⟨rfl, hk6, hb5⟩)
      | (go_at_call 24; refine (q4 _ ?_).mono ?_; (first | with_reducible assumption | with_reducible exact And.left ‹_›); rintro e w6 ⟨rfl, hk7, hb6⟩))
  have hk8 : KHB a b c d x y z p q r w w6 := hk7
  go_wp2
  go_ret
  exact ⟨rfl, hk8.1⟩
theorem drK3 {a b c d x y z p q r : Int} {w W : World} (h : KHB a b c d x y z p q r w W) : KHB a b c d x y z p q r w W.drew := KL.drew h
theorem keepsKHB3 (a b c d x y z p q r : Int) (w : World) {f : FuncId} {args : Array Value} {v : Value} (h : ∀ W, Calls Try.prog f args W fun e w' => e = .returned v ∧ Below W.heap.size W w') :
    ∀ W, KHB a b c d x y z p q r w W → Calls Try.prog f args W fun e w' => e = .returned v ∧ KHB a b c d x y z p q r w w' ∧ Below W.heap.size W w' := fun W hk => (h W).mono fun _ _ ⟨he, hb⟩ => ⟨he, KL.over hk hb, hb⟩
set_option maxHeartbeats 16000000 in
set_option maxRecDepth 100000 in
theorem planeMoves_c3 (a b c d x y z p q r k m n x1 y1 z1 p1 q1 r1 x2 y2 z2 p2 q2 r2 sd1 e1 sd2 e2 : Int) (hk : 0 ≤ k) (hk5 : k ≤ 5) (hn : 0 ≤ n) (hnm : n ≤ m) (hm : m ≤ 1000000)
    (hd : ∀ w, Calls Try.prog 35 #[.agg #[.int .i64 a, .int .i64 b, .int .i64 c, .int .i64 d], .agg #[.int .i64 x, .int .i64 y, .int .i64 z, .int .i64 p, .int .i64 q, .int .i64 r], .int .i64 k, .int .i64 m] w fun e w' => e = .returned (.tuple #[.int .i64 n, .int .i64 0]) ∧ Below w.heap.size w w')
    (hm1 : ∀ w, Calls Try.prog 37 #[.agg #[.int .i64 x, .int .i64 y, .int .i64 z, .int .i64 p, .int .i64 q, .int .i64 r], .int .i64 k, .int .i64 n] w fun e w' => e = .returned (.agg #[.int .i64 x1, .int .i64 y1, .int .i64 z1, .int .i64 p1, .int .i64 q1, .int .i64 r1]) ∧ Below w.heap.size w w') (hs1 : ∀ w, Calls Try.prog 24 #[.agg #[.int .i64 a, .int .i64 b, .int .i64 c, .int .i64 d], .agg #[.int .i64 x1, .int .i64 y1, .int .i64 z1, .int .i64 p1, .int .i64 q1, .int .i64 r1]] w fun e w' => e = .returned (.tuple #[.int .i64 sd1, .int .i64 e1]) ∧ Below w.heap.size w w')
    (hm2 : ∀ w, Calls Try.prog 37 #[.agg #[.int .i64 x, .int .i64 y, .int .i64 z, .int .i64 p, .int .i64 q, .int .i64 r], .int .i64 k, .int .i64 (n + 1)] w fun e w' => e = .returned (.agg #[.int .i64 x2, .int .i64 y2, .int .i64 z2, .int .i64 p2, .int .i64 q2, .int .i64 r2]) ∧ Below w.heap.size w w') (hs2 : ∀ w, Calls Try.prog 24 #[.agg #[.int .i64 a, .int .i64 b, .int .i64 c, .int .i64 d], .agg #[.int .i64 x2, .int .i64 y2, .int .i64 z2, .int .i64 p2, .int .i64 q2, .int .i64 r2]] w fun e w' => e = .returned (.tuple #[.int .i64 sd2, .int .i64 e2]) ∧ Below w.heap.size w w')
    (c1 : e1 = 0 ∧ sd1 = 1) (f2 : n < m) (c2 : e2 = 0) (f3 : sd2 ≠ 1) (w : World) :
    Calls Try.prog 12 #[.agg #[.int .i64 a, .int .i64 b, .int .i64 c, .int .i64 d], .agg #[.int .i64 x, .int .i64 y, .int .i64 z, .int .i64 p, .int .i64 q, .int .i64 r], .int .i64 k, .int .i64 m] w fun e w' => e = .returned (.bool true) ∧ Below w.heap.size w w' := by
  obtain ⟨rfl, rfl⟩ := c1
  subst c2
  have u1 : (sd2 == 1) = false := by simpa using f3
  have u2 : (sd2 != 1) = true := by simpa using f3
  clear f3
  have q1 := keepsKHB3 a b c d x y z p q r w hm1
  have q2 := keepsKHB3 a b c d x y z p q r w hs1
  have q3 := keepsKHB3 a b c d x y z p q r w hm2
  have hwr : IntKind.i64.wrap (n + 1) = n + 1 := IntWalk.i64_in _ (by omega)
  have q4 := keepsKHB3 a b c d x y z p q r w hs2

  go_enter Try.func12, Try.ntmps12
  go_wp2_with (first
    | (go_at_call 17; refine (awake_any _).mono ?_; rintro e w1 ⟨rfl, hb1⟩; obtain ⟨hc1, hf1⟩ := bcell hb1; have hz1 := hb1.size; (try simp at hz1); (try have y10 : w.heap.size < w1.heap.size := (by omega)); (try have y10p : w.heap.size < w1.heap.size + 1 := (by omega)); (try have y11 : w.heap.size + 1 < w1.heap.size := (by omega)); (try have y11p : w.heap.size + 1 < w1.heap.size + 1 := (by omega)); (try have y12 : w.heap.size + 1 + 1 < w1.heap.size := (by omega)); (try have y12p : w.heap.size + 1 + 1 < w1.heap.size + 1 := (by omega)); (try have v0x1 : w0.heap.size < w1.heap.size := (by omega)); (try have v0x1p : w0.heap.size < w1.heap.size + 1 := (by omega)))
    | (go_at_call 35; refine (hd _).mono ?_; rintro e w2 ⟨rfl, hb2⟩; obtain ⟨hc2, hf2⟩ := bcell hb2; have hz2 := hb2.size; (try simp at hz2); (try have y20 : w.heap.size < w2.heap.size := (by omega)); (try have y20p : w.heap.size < w2.heap.size + 1 := (by omega)); (try have y21 : w.heap.size + 1 < w2.heap.size := (by omega)); (try have y21p : w.heap.size + 1 < w2.heap.size + 1 := (by omega)); (try have y22 : w.heap.size + 1 + 1 < w2.heap.size := (by omega)); (try have y22p : w.heap.size + 1 + 1 < w2.heap.size + 1 := (by omega)); (try have v0x2 : w0.heap.size < w2.heap.size := (by omega)); (try have v0x2p : w0.heap.size < w2.heap.size + 1 := (by omega)); (try have v1x2 : w1.heap.size < w2.heap.size := (by omega)); (try have v1x2p : w1.heap.size < w2.heap.size + 1 := (by omega))))
  have hk2 : KHB a b c d x y z p q r w w2 := KL.over (KL.over KHB.start hb1) hb2
  have hka := hk2.alls
  clear hb1 hc1 hf1 hb2 hc2 hf2
  go_region_held3 (fun W => KHB a b c d x y z p q r w W ∧ w.heap.size + 1 < W.heap.size ∧
      (W.cell? ⟨w.heap.size, 0, none⟩ = some (.int .i64 a) ∧ W.cell? ⟨w.heap.size, 1, none⟩ = some (.int .i64 b) ∧ W.cell? ⟨w.heap.size, 2, none⟩ = some (.int .i64 c) ∧ W.cell? ⟨w.heap.size, 3, none⟩ = some (.int .i64 d)) ∧
      W.cell? ⟨w.heap.size + 1, 0, none⟩ = some (.int .i64 x) ∧ W.cell? ⟨w.heap.size + 1, 1, none⟩ = some (.int .i64 y) ∧ W.cell? ⟨w.heap.size + 1, 2, none⟩ = some (.int .i64 z) ∧
      W.cell? ⟨w.heap.size + 1, 3, none⟩ = some (.int .i64 p) ∧ W.cell? ⟨w.heap.size + 1, 4, none⟩ = some (.int .i64 q) ∧ W.cell? ⟨w.heap.size + 1, 5, none⟩ = some (.int .i64 r))
        (first | with_reducible exact hka | exact KHB.alls (by with_reducible assumption) | exact (KHB.alls (drK3 (by with_reducible assumption))))
    (first
      | (go_at_call 37; refine (q1 _ ?_).mono ?_; (first | with_reducible assumption | with_reducible exact And.left ‹_›); rintro e w3 ⟨rfl, hk3, hb3⟩)
      | (go_at_call 24; refine (q2 _ ?_).mono ?_; (first | with_reducible assumption | with_reducible exact And.left ‹_›); rintro e w4 ⟨rfl, hk4, hb4⟩))
  have hk5 : KHB a b c d x y z p q r w w4 := hk4
  clear hka hk2 q1 q2
  have hka := hk5.alls
  go_wp2_with fail
  go_region_held3 (fun W => KHB a b c d x y z p q r w W ∧ w.heap.size + 1 < W.heap.size ∧
      (W.cell? ⟨w.heap.size, 0, none⟩ = some (.int .i64 a) ∧ W.cell? ⟨w.heap.size, 1, none⟩ = some (.int .i64 b) ∧ W.cell? ⟨w.heap.size, 2, none⟩ = some (.int .i64 c) ∧ W.cell? ⟨w.heap.size, 3, none⟩ = some (.int .i64 d)) ∧
      W.cell? ⟨w.heap.size + 1, 0, none⟩ = some (.int .i64 x) ∧ W.cell? ⟨w.heap.size + 1, 1, none⟩ = some (.int .i64 y) ∧ W.cell? ⟨w.heap.size + 1, 2, none⟩ = some (.int .i64 z) ∧
      W.cell? ⟨w.heap.size + 1, 3, none⟩ = some (.int .i64 p) ∧ W.cell? ⟨w.heap.size + 1, 4, none⟩ = some (.int .i64 q) ∧ W.cell? ⟨w.heap.size + 1, 5, none⟩ = some (.int .i64 r))
        (first | with_reducible exact hka | exact KHB.alls (by with_reducible assumption) | exact (KHB.alls (drK3 (by with_reducible assumption))))
    (first
      | (go_at_call 37; refine (q3 _ ?_).mono ?_; (first | with_reducible assumption | with_reducible exact And.left ‹_›); rintro e w5 ⟨rfl, hk6, hb5⟩)
      | (go_at_call 24; refine (q4 _ ?_).mono ?_; (first | with_reducible assumption | with_reducible exact And.left ‹_›); rintro e w6 ⟨rfl, hk7, hb6⟩))
  have hk8 : KHB a b c d x y z p q r w w6 := hk7
  go_wp2
  go_ret
  exact ⟨rfl, hk8.1⟩
theorem drK4 {a b c d x y z p q r : Int} {w W : World} (h : KHB a b c d x y z p q r w W) : KHB a b c d x y z p q r w W.drew := KL.drew h
theorem keepsKHB4 (a b c d x y z p q r : Int) (w : World) {f : FuncId} {args : Array Value} {v : Value} (h : ∀ W, Calls Try.prog f args W fun e w' => e = .returned v ∧ Below W.heap.size W w') :
    ∀ W, KHB a b c d x y z p q r w W → Calls Try.prog f args W fun e w' => e = .returned v ∧ KHB a b c d x y z p q r w w' ∧ Below W.heap.size W w' := fun W hk => (h W).mono fun _ _ ⟨he, hb⟩ => ⟨he, KL.over hk hb, hb⟩
set_option maxHeartbeats 16000000 in
set_option maxRecDepth 100000 in
theorem planeMoves_c4 (a b c d x y z p q r k m n x1 y1 z1 p1 q1 r1 x2 y2 z2 p2 q2 r2 sd1 e1 sd2 e2 : Int) (hk : 0 ≤ k) (hk5 : k ≤ 5) (hn : 0 ≤ n) (hnm : n ≤ m) (hm : m ≤ 1000000)
    (hd : ∀ w, Calls Try.prog 35 #[.agg #[.int .i64 a, .int .i64 b, .int .i64 c, .int .i64 d], .agg #[.int .i64 x, .int .i64 y, .int .i64 z, .int .i64 p, .int .i64 q, .int .i64 r], .int .i64 k, .int .i64 m] w fun e w' => e = .returned (.tuple #[.int .i64 n, .int .i64 0]) ∧ Below w.heap.size w w')
    (hm1 : ∀ w, Calls Try.prog 37 #[.agg #[.int .i64 x, .int .i64 y, .int .i64 z, .int .i64 p, .int .i64 q, .int .i64 r], .int .i64 k, .int .i64 n] w fun e w' => e = .returned (.agg #[.int .i64 x1, .int .i64 y1, .int .i64 z1, .int .i64 p1, .int .i64 q1, .int .i64 r1]) ∧ Below w.heap.size w w') (hs1 : ∀ w, Calls Try.prog 24 #[.agg #[.int .i64 a, .int .i64 b, .int .i64 c, .int .i64 d], .agg #[.int .i64 x1, .int .i64 y1, .int .i64 z1, .int .i64 p1, .int .i64 q1, .int .i64 r1]] w fun e w' => e = .returned (.tuple #[.int .i64 sd1, .int .i64 e1]) ∧ Below w.heap.size w w')
    (hm2 : ∀ w, Calls Try.prog 37 #[.agg #[.int .i64 x, .int .i64 y, .int .i64 z, .int .i64 p, .int .i64 q, .int .i64 r], .int .i64 k, .int .i64 (n + 1)] w fun e w' => e = .returned (.agg #[.int .i64 x2, .int .i64 y2, .int .i64 z2, .int .i64 p2, .int .i64 q2, .int .i64 r2]) ∧ Below w.heap.size w w') (hs2 : ∀ w, Calls Try.prog 24 #[.agg #[.int .i64 a, .int .i64 b, .int .i64 c, .int .i64 d], .agg #[.int .i64 x2, .int .i64 y2, .int .i64 z2, .int .i64 p2, .int .i64 q2, .int .i64 r2]] w fun e w' => e = .returned (.tuple #[.int .i64 sd2, .int .i64 e2]) ∧ Below w.heap.size w w')
    (f1 : e1 ≠ 0) (c2 : n = m) (w : World) :
    Calls Try.prog 12 #[.agg #[.int .i64 a, .int .i64 b, .int .i64 c, .int .i64 d], .agg #[.int .i64 x, .int .i64 y, .int .i64 z, .int .i64 p, .int .i64 q, .int .i64 r], .int .i64 k, .int .i64 m] w fun e w' => e = .returned (.bool true) ∧ Below w.heap.size w w' := by
  obtain ⟨v1, v2⟩ := ne_tests f1
  clear f1
  subst c2
  have q1 := keepsKHB4 a b c d x y z p q r w hm1
  have q2 := keepsKHB4 a b c d x y z p q r w hs1
  have q3 := keepsKHB4 a b c d x y z p q r w hm2
  have hwr : IntKind.i64.wrap (n + 1) = n + 1 := IntWalk.i64_in _ (by omega)
  have q4 := keepsKHB4 a b c d x y z p q r w hs2

  go_enter Try.func12, Try.ntmps12
  go_wp2_with (first
    | (go_at_call 17; refine (awake_any _).mono ?_; rintro e w1 ⟨rfl, hb1⟩; obtain ⟨hc1, hf1⟩ := bcell hb1; have hz1 := hb1.size; (try simp at hz1); (try have y10 : w.heap.size < w1.heap.size := (by omega)); (try have y10p : w.heap.size < w1.heap.size + 1 := (by omega)); (try have y11 : w.heap.size + 1 < w1.heap.size := (by omega)); (try have y11p : w.heap.size + 1 < w1.heap.size + 1 := (by omega)); (try have y12 : w.heap.size + 1 + 1 < w1.heap.size := (by omega)); (try have y12p : w.heap.size + 1 + 1 < w1.heap.size + 1 := (by omega)); (try have v0x1 : w0.heap.size < w1.heap.size := (by omega)); (try have v0x1p : w0.heap.size < w1.heap.size + 1 := (by omega)))
    | (go_at_call 35; refine (hd _).mono ?_; rintro e w2 ⟨rfl, hb2⟩; obtain ⟨hc2, hf2⟩ := bcell hb2; have hz2 := hb2.size; (try simp at hz2); (try have y20 : w.heap.size < w2.heap.size := (by omega)); (try have y20p : w.heap.size < w2.heap.size + 1 := (by omega)); (try have y21 : w.heap.size + 1 < w2.heap.size := (by omega)); (try have y21p : w.heap.size + 1 < w2.heap.size + 1 := (by omega)); (try have y22 : w.heap.size + 1 + 1 < w2.heap.size := (by omega)); (try have y22p : w.heap.size + 1 + 1 < w2.heap.size + 1 := (by omega)); (try have v0x2 : w0.heap.size < w2.heap.size := (by omega)); (try have v0x2p : w0.heap.size < w2.heap.size + 1 := (by omega)); (try have v1x2 : w1.heap.size < w2.heap.size := (by omega)); (try have v1x2p : w1.heap.size < w2.heap.size + 1 := (by omega))))
  have hk2 : KHB a b c d x y z p q r w w2 := KL.over (KL.over KHB.start hb1) hb2
  have hka := hk2.alls
  clear hb1 hc1 hf1 hb2 hc2 hf2
  go_region_held3 (fun W => KHB a b c d x y z p q r w W ∧ w.heap.size + 1 < W.heap.size ∧
      (W.cell? ⟨w.heap.size, 0, none⟩ = some (.int .i64 a) ∧ W.cell? ⟨w.heap.size, 1, none⟩ = some (.int .i64 b) ∧ W.cell? ⟨w.heap.size, 2, none⟩ = some (.int .i64 c) ∧ W.cell? ⟨w.heap.size, 3, none⟩ = some (.int .i64 d)) ∧
      W.cell? ⟨w.heap.size + 1, 0, none⟩ = some (.int .i64 x) ∧ W.cell? ⟨w.heap.size + 1, 1, none⟩ = some (.int .i64 y) ∧ W.cell? ⟨w.heap.size + 1, 2, none⟩ = some (.int .i64 z) ∧
      W.cell? ⟨w.heap.size + 1, 3, none⟩ = some (.int .i64 p) ∧ W.cell? ⟨w.heap.size + 1, 4, none⟩ = some (.int .i64 q) ∧ W.cell? ⟨w.heap.size + 1, 5, none⟩ = some (.int .i64 r))
        (first | with_reducible exact hka | exact KHB.alls (by with_reducible assumption) | exact (KHB.alls (drK4 (by with_reducible assumption))))
    (first
      | (go_at_call 37; refine (q1 _ ?_).mono ?_; (first | with_reducible assumption | with_reducible exact And.left ‹_›); rintro e w3 ⟨rfl, hk3, hb3⟩)
      | (go_at_call 24; refine (q2 _ ?_).mono ?_; (first | with_reducible assumption | with_reducible exact And.left ‹_›); rintro e w4 ⟨rfl, hk4, hb4⟩))
  have hk5 : KHB a b c d x y z p q r w w4 := hk4
  clear hka hk2 q1 q2
  have hka := hk5.alls
  go_wp2_with fail
  go_region_held3 (fun W => KHB a b c d x y z p q r w W ∧ w.heap.size + 1 < W.heap.size ∧
      (W.cell? ⟨w.heap.size, 0, none⟩ = some (.int .i64 a) ∧ W.cell? ⟨w.heap.size, 1, none⟩ = some (.int .i64 b) ∧ W.cell? ⟨w.heap.size, 2, none⟩ = some (.int .i64 c) ∧ W.cell? ⟨w.heap.size, 3, none⟩ = some (.int .i64 d)) ∧
      W.cell? ⟨w.heap.size + 1, 0, none⟩ = some (.int .i64 x) ∧ W.cell? ⟨w.heap.size + 1, 1, none⟩ = some (.int .i64 y) ∧ W.cell? ⟨w.heap.size + 1, 2, none⟩ = some (.int .i64 z) ∧
      W.cell? ⟨w.heap.size + 1, 3, none⟩ = some (.int .i64 p) ∧ W.cell? ⟨w.heap.size + 1, 4, none⟩ = some (.int .i64 q) ∧ W.cell? ⟨w.heap.size + 1, 5, none⟩ = some (.int .i64 r))
        (first | with_reducible exact hka | exact KHB.alls (by with_reducible assumption) | exact (KHB.alls (drK4 (by with_reducible assumption))))
    (first
      | (go_at_call 37; refine (q3 _ ?_).mono ?_; (first | with_reducible assumption | with_reducible exact And.left ‹_›); rintro e w5 ⟨rfl, hk6, hb5⟩)
      | (go_at_call 24; refine (q4 _ ?_).mono ?_; (first | with_reducible assumption | with_reducible exact And.left ‹_›); rintro e w6 ⟨rfl, hk7, hb6⟩))
  have hk8 : KHB a b c d x y z p q r w w6 := hk7
  go_wp2
  go_ret
  exact ⟨rfl, hk8.1⟩
theorem drK5 {a b c d x y z p q r : Int} {w W : World} (h : KHB a b c d x y z p q r w W) : KHB a b c d x y z p q r w W.drew := KL.drew h
theorem keepsKHB5 (a b c d x y z p q r : Int) (w : World) {f : FuncId} {args : Array Value} {v : Value} (h : ∀ W, Calls Try.prog f args W fun e w' => e = .returned v ∧ Below W.heap.size W w') :
    ∀ W, KHB a b c d x y z p q r w W → Calls Try.prog f args W fun e w' => e = .returned v ∧ KHB a b c d x y z p q r w w' ∧ Below W.heap.size W w' := fun W hk => (h W).mono fun _ _ ⟨he, hb⟩ => ⟨he, KL.over hk hb, hb⟩
set_option maxHeartbeats 16000000 in
set_option maxRecDepth 100000 in
theorem planeMoves_c5 (a b c d x y z p q r k m n x1 y1 z1 p1 q1 r1 x2 y2 z2 p2 q2 r2 sd1 e1 sd2 e2 : Int) (hk : 0 ≤ k) (hk5 : k ≤ 5) (hn : 0 ≤ n) (hnm : n ≤ m) (hm : m ≤ 1000000)
    (hd : ∀ w, Calls Try.prog 35 #[.agg #[.int .i64 a, .int .i64 b, .int .i64 c, .int .i64 d], .agg #[.int .i64 x, .int .i64 y, .int .i64 z, .int .i64 p, .int .i64 q, .int .i64 r], .int .i64 k, .int .i64 m] w fun e w' => e = .returned (.tuple #[.int .i64 n, .int .i64 0]) ∧ Below w.heap.size w w')
    (hm1 : ∀ w, Calls Try.prog 37 #[.agg #[.int .i64 x, .int .i64 y, .int .i64 z, .int .i64 p, .int .i64 q, .int .i64 r], .int .i64 k, .int .i64 n] w fun e w' => e = .returned (.agg #[.int .i64 x1, .int .i64 y1, .int .i64 z1, .int .i64 p1, .int .i64 q1, .int .i64 r1]) ∧ Below w.heap.size w w') (hs1 : ∀ w, Calls Try.prog 24 #[.agg #[.int .i64 a, .int .i64 b, .int .i64 c, .int .i64 d], .agg #[.int .i64 x1, .int .i64 y1, .int .i64 z1, .int .i64 p1, .int .i64 q1, .int .i64 r1]] w fun e w' => e = .returned (.tuple #[.int .i64 sd1, .int .i64 e1]) ∧ Below w.heap.size w w')
    (hm2 : ∀ w, Calls Try.prog 37 #[.agg #[.int .i64 x, .int .i64 y, .int .i64 z, .int .i64 p, .int .i64 q, .int .i64 r], .int .i64 k, .int .i64 (n + 1)] w fun e w' => e = .returned (.agg #[.int .i64 x2, .int .i64 y2, .int .i64 z2, .int .i64 p2, .int .i64 q2, .int .i64 r2]) ∧ Below w.heap.size w w') (hs2 : ∀ w, Calls Try.prog 24 #[.agg #[.int .i64 a, .int .i64 b, .int .i64 c, .int .i64 d], .agg #[.int .i64 x2, .int .i64 y2, .int .i64 z2, .int .i64 p2, .int .i64 q2, .int .i64 r2]] w fun e w' => e = .returned (.tuple #[.int .i64 sd2, .int .i64 e2]) ∧ Below w.heap.size w w')
    (f1 : e1 ≠ 0) (f2 : n < m) (f3 : e2 ≠ 0) (w : World) :
    Calls Try.prog 12 #[.agg #[.int .i64 a, .int .i64 b, .int .i64 c, .int .i64 d], .agg #[.int .i64 x, .int .i64 y, .int .i64 z, .int .i64 p, .int .i64 q, .int .i64 r], .int .i64 k, .int .i64 m] w fun e w' => e = .returned (.bool true) ∧ Below w.heap.size w w' := by
  obtain ⟨v1, v2⟩ := ne_tests f1
  clear f1
  obtain ⟨u1, u2⟩ := ne_tests f3
  clear f3
  have q1 := keepsKHB5 a b c d x y z p q r w hm1
  have q2 := keepsKHB5 a b c d x y z p q r w hs1
  have q3 := keepsKHB5 a b c d x y z p q r w hm2
  have hwr : IntKind.i64.wrap (n + 1) = n + 1 := IntWalk.i64_in _ (by omega)
  have q4 := keepsKHB5 a b c d x y z p q r w hs2

  go_enter Try.func12, Try.ntmps12
  go_wp2_with (first
    | (go_at_call 17; refine (awake_any _).mono ?_; rintro e w1 ⟨rfl, hb1⟩; obtain ⟨hc1, hf1⟩ := bcell hb1; have hz1 := hb1.size; (try simp at hz1); (try have y10 : w.heap.size < w1.heap.size := (by omega)); (try have y10p : w.heap.size < w1.heap.size + 1 := (by omega)); (try have y11 : w.heap.size + 1 < w1.heap.size := (by omega)); (try have y11p : w.heap.size + 1 < w1.heap.size + 1 := (by omega)); (try have y12 : w.heap.size + 1 + 1 < w1.heap.size := (by omega)); (try have y12p : w.heap.size + 1 + 1 < w1.heap.size + 1 := (by omega)); (try have v0x1 : w0.heap.size < w1.heap.size := (by omega)); (try have v0x1p : w0.heap.size < w1.heap.size + 1 := (by omega)))
    | (go_at_call 35; refine (hd _).mono ?_; rintro e w2 ⟨rfl, hb2⟩; obtain ⟨hc2, hf2⟩ := bcell hb2; have hz2 := hb2.size; (try simp at hz2); (try have y20 : w.heap.size < w2.heap.size := (by omega)); (try have y20p : w.heap.size < w2.heap.size + 1 := (by omega)); (try have y21 : w.heap.size + 1 < w2.heap.size := (by omega)); (try have y21p : w.heap.size + 1 < w2.heap.size + 1 := (by omega)); (try have y22 : w.heap.size + 1 + 1 < w2.heap.size := (by omega)); (try have y22p : w.heap.size + 1 + 1 < w2.heap.size + 1 := (by omega)); (try have v0x2 : w0.heap.size < w2.heap.size := (by omega)); (try have v0x2p : w0.heap.size < w2.heap.size + 1 := (by omega)); (try have v1x2 : w1.heap.size < w2.heap.size := (by omega)); (try have v1x2p : w1.heap.size < w2.heap.size + 1 := (by omega))))
  have hk2 : KHB a b c d x y z p q r w w2 := KL.over (KL.over KHB.start hb1) hb2
  have hka := hk2.alls
  clear hb1 hc1 hf1 hb2 hc2 hf2
  go_region_held3 (fun W => KHB a b c d x y z p q r w W ∧ w.heap.size + 1 < W.heap.size ∧
      (W.cell? ⟨w.heap.size, 0, none⟩ = some (.int .i64 a) ∧ W.cell? ⟨w.heap.size, 1, none⟩ = some (.int .i64 b) ∧ W.cell? ⟨w.heap.size, 2, none⟩ = some (.int .i64 c) ∧ W.cell? ⟨w.heap.size, 3, none⟩ = some (.int .i64 d)) ∧
      W.cell? ⟨w.heap.size + 1, 0, none⟩ = some (.int .i64 x) ∧ W.cell? ⟨w.heap.size + 1, 1, none⟩ = some (.int .i64 y) ∧ W.cell? ⟨w.heap.size + 1, 2, none⟩ = some (.int .i64 z) ∧
      W.cell? ⟨w.heap.size + 1, 3, none⟩ = some (.int .i64 p) ∧ W.cell? ⟨w.heap.size + 1, 4, none⟩ = some (.int .i64 q) ∧ W.cell? ⟨w.heap.size + 1, 5, none⟩ = some (.int .i64 r))
        (first | with_reducible exact hka | exact KHB.alls (by with_reducible assumption) | exact (KHB.alls (drK5 (by with_reducible assumption))))
    (first
      | (go_at_call 37; refine (q1 _ ?_).mono ?_; (first | with_reducible assumption | with_reducible exact And.left ‹_›); rintro e w3 ⟨rfl, hk3, hb3⟩)
      | (go_at_call 24; refine (q2 _ ?_).mono ?_; (first | with_reducible assumption | with_reducible exact And.left ‹_›); rintro e w4 ⟨rfl, hk4, hb4⟩))
  have hk5 : KHB a b c d x y z p q r w w4 := hk4
  clear hka hk2 q1 q2
  have hka := hk5.alls
  go_wp2_with fail
  go_region_held3 (fun W => KHB a b c d x y z p q r w W ∧ w.heap.size + 1 < W.heap.size ∧
      (W.cell? ⟨w.heap.size, 0, none⟩ = some (.int .i64 a) ∧ W.cell? ⟨w.heap.size, 1, none⟩ = some (.int .i64 b) ∧ W.cell? ⟨w.heap.size, 2, none⟩ = some (.int .i64 c) ∧ W.cell? ⟨w.heap.size, 3, none⟩ = some (.int .i64 d)) ∧
      W.cell? ⟨w.heap.size + 1, 0, none⟩ = some (.int .i64 x) ∧ W.cell? ⟨w.heap.size + 1, 1, none⟩ = some (.int .i64 y) ∧ W.cell? ⟨w.heap.size + 1, 2, none⟩ = some (.int .i64 z) ∧
      W.cell? ⟨w.heap.size + 1, 3, none⟩ = some (.int .i64 p) ∧ W.cell? ⟨w.heap.size + 1, 4, none⟩ = some (.int .i64 q) ∧ W.cell? ⟨w.heap.size + 1, 5, none⟩ = some (.int .i64 r))
        (first | with_reducible exact hka | exact KHB.alls (by with_reducible assumption) | exact (KHB.alls (drK5 (by with_reducible assumption))))
    (first
      | (go_at_call 37; refine (q3 _ ?_).mono ?_; (first | with_reducible assumption | with_reducible exact And.left ‹_›); rintro e w5 ⟨rfl, hk6, hb5⟩)
      | (go_at_call 24; refine (q4 _ ?_).mono ?_; (first | with_reducible assumption | with_reducible exact And.left ‹_›); rintro e w6 ⟨rfl, hk7, hb6⟩))
  have hk8 : KHB a b c d x y z p q r w w6 := hk7
  go_wp2
  go_ret
  exact ⟨rfl, hk8.1⟩
theorem drK6 {a b c d x y z p q r : Int} {w W : World} (h : KHB a b c d x y z p q r w W) : KHB a b c d x y z p q r w W.drew := KL.drew h
theorem keepsKHB6 (a b c d x y z p q r : Int) (w : World) {f : FuncId} {args : Array Value} {v : Value} (h : ∀ W, Calls Try.prog f args W fun e w' => e = .returned v ∧ Below W.heap.size W w') :
    ∀ W, KHB a b c d x y z p q r w W → Calls Try.prog f args W fun e w' => e = .returned v ∧ KHB a b c d x y z p q r w w' ∧ Below W.heap.size W w' := fun W hk => (h W).mono fun _ _ ⟨he, hb⟩ => ⟨he, KL.over hk hb, hb⟩
set_option maxHeartbeats 16000000 in
set_option maxRecDepth 100000 in
theorem planeMoves_c6 (a b c d x y z p q r k m n x1 y1 z1 p1 q1 r1 x2 y2 z2 p2 q2 r2 sd1 e1 sd2 e2 : Int) (hk : 0 ≤ k) (hk5 : k ≤ 5) (hn : 0 ≤ n) (hnm : n ≤ m) (hm : m ≤ 1000000)
    (hd : ∀ w, Calls Try.prog 35 #[.agg #[.int .i64 a, .int .i64 b, .int .i64 c, .int .i64 d], .agg #[.int .i64 x, .int .i64 y, .int .i64 z, .int .i64 p, .int .i64 q, .int .i64 r], .int .i64 k, .int .i64 m] w fun e w' => e = .returned (.tuple #[.int .i64 n, .int .i64 0]) ∧ Below w.heap.size w w')
    (hm1 : ∀ w, Calls Try.prog 37 #[.agg #[.int .i64 x, .int .i64 y, .int .i64 z, .int .i64 p, .int .i64 q, .int .i64 r], .int .i64 k, .int .i64 n] w fun e w' => e = .returned (.agg #[.int .i64 x1, .int .i64 y1, .int .i64 z1, .int .i64 p1, .int .i64 q1, .int .i64 r1]) ∧ Below w.heap.size w w') (hs1 : ∀ w, Calls Try.prog 24 #[.agg #[.int .i64 a, .int .i64 b, .int .i64 c, .int .i64 d], .agg #[.int .i64 x1, .int .i64 y1, .int .i64 z1, .int .i64 p1, .int .i64 q1, .int .i64 r1]] w fun e w' => e = .returned (.tuple #[.int .i64 sd1, .int .i64 e1]) ∧ Below w.heap.size w w')
    (hm2 : ∀ w, Calls Try.prog 37 #[.agg #[.int .i64 x, .int .i64 y, .int .i64 z, .int .i64 p, .int .i64 q, .int .i64 r], .int .i64 k, .int .i64 (n + 1)] w fun e w' => e = .returned (.agg #[.int .i64 x2, .int .i64 y2, .int .i64 z2, .int .i64 p2, .int .i64 q2, .int .i64 r2]) ∧ Below w.heap.size w w') (hs2 : ∀ w, Calls Try.prog 24 #[.agg #[.int .i64 a, .int .i64 b, .int .i64 c, .int .i64 d], .agg #[.int .i64 x2, .int .i64 y2, .int .i64 z2, .int .i64 p2, .int .i64 q2, .int .i64 r2]] w fun e w' => e = .returned (.tuple #[.int .i64 sd2, .int .i64 e2]) ∧ Below w.heap.size w w')
    (f1 : e1 ≠ 0) (f2 : n < m) (c2 : e2 = 0) (f3 : sd2 ≠ 1) (w : World) :
    Calls Try.prog 12 #[.agg #[.int .i64 a, .int .i64 b, .int .i64 c, .int .i64 d], .agg #[.int .i64 x, .int .i64 y, .int .i64 z, .int .i64 p, .int .i64 q, .int .i64 r], .int .i64 k, .int .i64 m] w fun e w' => e = .returned (.bool true) ∧ Below w.heap.size w w' := by
  obtain ⟨v1, v2⟩ := ne_tests f1
  clear f1
  subst c2
  have u1 : (sd2 == 1) = false := by simpa using f3
  have u2 : (sd2 != 1) = true := by simpa using f3
  clear f3
  have q1 := keepsKHB6 a b c d x y z p q r w hm1
  have q2 := keepsKHB6 a b c d x y z p q r w hs1
  have q3 := keepsKHB6 a b c d x y z p q r w hm2
  have hwr : IntKind.i64.wrap (n + 1) = n + 1 := IntWalk.i64_in _ (by omega)
  have q4 := keepsKHB6 a b c d x y z p q r w hs2

  go_enter Try.func12, Try.ntmps12
  go_wp2_with (first
    | (go_at_call 17; refine (awake_any _).mono ?_; rintro e w1 ⟨rfl, hb1⟩; obtain ⟨hc1, hf1⟩ := bcell hb1; have hz1 := hb1.size; (try simp at hz1); (try have y10 : w.heap.size < w1.heap.size := (by omega)); (try have y10p : w.heap.size < w1.heap.size + 1 := (by omega)); (try have y11 : w.heap.size + 1 < w1.heap.size := (by omega)); (try have y11p : w.heap.size + 1 < w1.heap.size + 1 := (by omega)); (try have y12 : w.heap.size + 1 + 1 < w1.heap.size := (by omega)); (try have y12p : w.heap.size + 1 + 1 < w1.heap.size + 1 := (by omega)); (try have v0x1 : w0.heap.size < w1.heap.size := (by omega)); (try have v0x1p : w0.heap.size < w1.heap.size + 1 := (by omega)))
    | (go_at_call 35; refine (hd _).mono ?_; rintro e w2 ⟨rfl, hb2⟩; obtain ⟨hc2, hf2⟩ := bcell hb2; have hz2 := hb2.size; (try simp at hz2); (try have y20 : w.heap.size < w2.heap.size := (by omega)); (try have y20p : w.heap.size < w2.heap.size + 1 := (by omega)); (try have y21 : w.heap.size + 1 < w2.heap.size := (by omega)); (try have y21p : w.heap.size + 1 < w2.heap.size + 1 := (by omega)); (try have y22 : w.heap.size + 1 + 1 < w2.heap.size := (by omega)); (try have y22p : w.heap.size + 1 + 1 < w2.heap.size + 1 := (by omega)); (try have v0x2 : w0.heap.size < w2.heap.size := (by omega)); (try have v0x2p : w0.heap.size < w2.heap.size + 1 := (by omega)); (try have v1x2 : w1.heap.size < w2.heap.size := (by omega)); (try have v1x2p : w1.heap.size < w2.heap.size + 1 := (by omega))))
  have hk2 : KHB a b c d x y z p q r w w2 := KL.over (KL.over KHB.start hb1) hb2
  have hka := hk2.alls
  clear hb1 hc1 hf1 hb2 hc2 hf2
  go_region_held3 (fun W => KHB a b c d x y z p q r w W ∧ w.heap.size + 1 < W.heap.size ∧
      (W.cell? ⟨w.heap.size, 0, none⟩ = some (.int .i64 a) ∧ W.cell? ⟨w.heap.size, 1, none⟩ = some (.int .i64 b) ∧ W.cell? ⟨w.heap.size, 2, none⟩ = some (.int .i64 c) ∧ W.cell? ⟨w.heap.size, 3, none⟩ = some (.int .i64 d)) ∧
      W.cell? ⟨w.heap.size + 1, 0, none⟩ = some (.int .i64 x) ∧ W.cell? ⟨w.heap.size + 1, 1, none⟩ = some (.int .i64 y) ∧ W.cell? ⟨w.heap.size + 1, 2, none⟩ = some (.int .i64 z) ∧
      W.cell? ⟨w.heap.size + 1, 3, none⟩ = some (.int .i64 p) ∧ W.cell? ⟨w.heap.size + 1, 4, none⟩ = some (.int .i64 q) ∧ W.cell? ⟨w.heap.size + 1, 5, none⟩ = some (.int .i64 r))
        (first | with_reducible exact hka | exact KHB.alls (by with_reducible assumption) | exact (KHB.alls (drK6 (by with_reducible assumption))))
    (first
      | (go_at_call 37; refine (q1 _ ?_).mono ?_; (first | with_reducible assumption | with_reducible exact And.left ‹_›); rintro e w3 ⟨rfl, hk3, hb3⟩)
      | (go_at_call 24; refine (q2 _ ?_).mono ?_; (first | with_reducible assumption | with_reducible exact And.left ‹_›); rintro e w4 ⟨rfl, hk4, hb4⟩))
  have hk5 : KHB a b c d x y z p q r w w4 := hk4
  clear hka hk2 q1 q2
  have hka := hk5.alls
  go_wp2_with fail
  go_region_held3 (fun W => KHB a b c d x y z p q r w W ∧ w.heap.size + 1 < W.heap.size ∧
      (W.cell? ⟨w.heap.size, 0, none⟩ = some (.int .i64 a) ∧ W.cell? ⟨w.heap.size, 1, none⟩ = some (.int .i64 b) ∧ W.cell? ⟨w.heap.size, 2, none⟩ = some (.int .i64 c) ∧ W.cell? ⟨w.heap.size, 3, none⟩ = some (.int .i64 d)) ∧
      W.cell? ⟨w.heap.size + 1, 0, none⟩ = some (.int .i64 x) ∧ W.cell? ⟨w.heap.size + 1, 1, none⟩ = some (.int .i64 y) ∧ W.cell? ⟨w.heap.size + 1, 2, none⟩ = some (.int .i64 z) ∧
      W.cell? ⟨w.heap.size + 1, 3, none⟩ = some (.int .i64 p) ∧ W.cell? ⟨w.heap.size + 1, 4, none⟩ = some (.int .i64 q) ∧ W.cell? ⟨w.heap.size + 1, 5, none⟩ = some (.int .i64 r))
        (first | with_reducible exact hka | exact KHB.alls (by with_reducible assumption) | exact (KHB.alls (drK6 (by with_reducible assumption))))
    (first
      | (go_at_call 37; refine (q3 _ ?_).mono ?_; (first | with_reducible assumption | with_reducible exact And.left ‹_›); rintro e w5 ⟨rfl, hk6, hb5⟩)
      | (go_at_call 24; refine (q4 _ ?_).mono ?_; (first | with_reducible assumption | with_reducible exact And.left ‹_›); rintro e w6 ⟨rfl, hk7, hb6⟩))
  have hk8 : KHB a b c d x y z p q r w w6 := hk7
  go_wp2
  go_ret
  exact ⟨rfl, hk8.1⟩
set_option maxHeartbeats 16000000 in
set_option maxRecDepth 100000 in
theorem planeMoves_gen (a b c d x y z p q r k m n x1 y1 z1 p1 q1 r1 x2 y2 z2 p2 q2 r2 sd1 e1 sd2 e2 : Int) (hk : 0 ≤ k) (hk5 : k ≤ 5) (hn : 0 ≤ n) (hnm : n ≤ m) (hm : m ≤ 1000000)
    (hd : ∀ w, Calls Try.prog 35 #[.agg #[.int .i64 a, .int .i64 b, .int .i64 c, .int .i64 d], .agg #[.int .i64 x, .int .i64 y, .int .i64 z, .int .i64 p, .int .i64 q, .int .i64 r], .int .i64 k, .int .i64 m] w fun e w' => e = .returned (.tuple #[.int .i64 n, .int .i64 0]) ∧ Below w.heap.size w w')
    (hm1 : ∀ w, Calls Try.prog 37 #[.agg #[.int .i64 x, .int .i64 y, .int .i64 z, .int .i64 p, .int .i64 q, .int .i64 r], .int .i64 k, .int .i64 n] w fun e w' => e = .returned (.agg #[.int .i64 x1, .int .i64 y1, .int .i64 z1, .int .i64 p1, .int .i64 q1, .int .i64 r1]) ∧ Below w.heap.size w w') (hs1 : ∀ w, Calls Try.prog 24 #[.agg #[.int .i64 a, .int .i64 b, .int .i64 c, .int .i64 d], .agg #[.int .i64 x1, .int .i64 y1, .int .i64 z1, .int .i64 p1, .int .i64 q1, .int .i64 r1]] w fun e w' => e = .returned (.tuple #[.int .i64 sd1, .int .i64 e1]) ∧ Below w.heap.size w w')
    (hm2 : ∀ w, Calls Try.prog 37 #[.agg #[.int .i64 x, .int .i64 y, .int .i64 z, .int .i64 p, .int .i64 q, .int .i64 r], .int .i64 k, .int .i64 (n + 1)] w fun e w' => e = .returned (.agg #[.int .i64 x2, .int .i64 y2, .int .i64 z2, .int .i64 p2, .int .i64 q2, .int .i64 r2]) ∧ Below w.heap.size w w') (hs2 : ∀ w, Calls Try.prog 24 #[.agg #[.int .i64 a, .int .i64 b, .int .i64 c, .int .i64 d], .agg #[.int .i64 x2, .int .i64 y2, .int .i64 z2, .int .i64 p2, .int .i64 q2, .int .i64 r2]] w fun e w' => e = .returned (.tuple #[.int .i64 sd2, .int .i64 e2]) ∧ Below w.heap.size w w')
    (c1 : e1 = 0 → sd1 = 1) (c2 : n = m ∨ e2 ≠ 0 ∨ sd2 ≠ 1) (w : World) :
    Calls Try.prog 12 #[.agg #[.int .i64 a, .int .i64 b, .int .i64 c, .int .i64 d], .agg #[.int .i64 x, .int .i64 y, .int .i64 z, .int .i64 p, .int .i64 q, .int .i64 r], .int .i64 k, .int .i64 m] w fun e w' => e = .returned (.bool true) ∧ Below w.heap.size w w' := by
  by_cases h1 : e1 = 0
  · have h2 := c1 h1
    by_cases h3 : n = m
    · exact planeMoves_c1 a b c d x y z p q r k m n x1 y1 z1 p1 q1 r1 x2 y2 z2 p2 q2 r2 sd1 e1 sd2 e2 hk hk5 hn hnm hm hd hm1 hs1 hm2 hs2 ⟨h1, h2⟩ h3 w
    · by_cases h4 : e2 = 0
      · exact planeMoves_c3 a b c d x y z p q r k m n x1 y1 z1 p1 q1 r1 x2 y2 z2 p2 q2 r2 sd1 e1 sd2 e2 hk hk5 hn hnm hm hd hm1 hs1 hm2 hs2 ⟨h1, h2⟩ (by omega) h4 (by omega) w
      · exact planeMoves_c2 a b c d x y z p q r k m n x1 y1 z1 p1 q1 r1 x2 y2 z2 p2 q2 r2 sd1 e1 sd2 e2 hk hk5 hn hnm hm hd hm1 hs1 hm2 hs2 ⟨h1, h2⟩ (by omega) h4 w
  · by_cases h3 : n = m
    · exact planeMoves_c4 a b c d x y z p q r k m n x1 y1 z1 p1 q1 r1 x2 y2 z2 p2 q2 r2 sd1 e1 sd2 e2 hk hk5 hn hnm hm hd hm1 hs1 hm2 hs2 h1 h3 w
    · by_cases h4 : e2 = 0
      · exact planeMoves_c6 a b c d x y z p q r k m n x1 y1 z1 p1 q1 r1 x2 y2 z2 p2 q2 r2 sd1 e1 sd2 e2 hk hk5 hn hnm hm hd hm1 hs1 hm2 hs2 h1 (by omega) h4 (by omega) w
      · exact planeMoves_c5 a b c d x y z p q r k m n x1 y1 z1 p1 q1 r1 x2 y2 z2 p2 q2 r2 sd1 e1 sd2 e2 hk hk5 hn hnm hm hd hm1 hs1 hm2 hs2 h1 (by omega) h4 w
set_option maxHeartbeats 4000000 in
set_option maxRecDepth 100000 in
theorem planeMoves_err (a b c d x y z p q r k m e1 : Int) (hd : ∀ w, Calls Try.prog 35 #[.agg #[.int .i64 a, .int .i64 b, .int .i64 c, .int .i64 d], .agg #[.int .i64 x, .int .i64 y, .int .i64 z, .int .i64 p, .int .i64 q, .int .i64 r], .int .i64 k, .int .i64 m] w fun e w' => e = .returned (.tuple #[.int .i64 0, .int .i64 e1]) ∧ Below w.heap.size w w') (he : e1 ≠ 0) (w : World) :
    Calls Try.prog 12 #[.agg #[.int .i64 a, .int .i64 b, .int .i64 c, .int .i64 d], .agg #[.int .i64 x, .int .i64 y, .int .i64 z, .int .i64 p, .int .i64 q, .int .i64 r], .int .i64 k, .int .i64 m] w fun e w' => e = .returned (.bool true) ∧ Below w.heap.size w w' := by
  obtain ⟨u1, u2⟩ := ne_tests he
  clear he
  go_enter Try.func12, Try.ntmps12
  go_wp2_with (first
      | (go_at_call 17; refine (awake_any _).mono ?_; rintro e w1 ⟨rfl, hb1⟩; obtain ⟨hc1, hf1⟩ := bcell hb1; have hz1 := hb1.size; (try simp at hz1); (try have y10 : w.heap.size < w1.heap.size := (by omega)); (try have y10p : w.heap.size < w1.heap.size + 1 := (by omega)); (try have y11 : w.heap.size + 1 < w1.heap.size := (by omega)); (try have y11p : w.heap.size + 1 < w1.heap.size + 1 := (by omega)); (try have y12 : w.heap.size + 1 + 1 < w1.heap.size := (by omega)); (try have y12p : w.heap.size + 1 + 1 < w1.heap.size + 1 := (by omega)); (try have v0x1 : w0.heap.size < w1.heap.size := (by omega)); (try have v0x1p : w0.heap.size < w1.heap.size + 1 := (by omega)))
      | (go_at_call 35; refine (hd _).mono ?_; rintro e w2 ⟨rfl, hb2⟩; obtain ⟨hc2, hf2⟩ := bcell hb2; have hz2 := hb2.size; (try simp at hz2); (try have y20 : w.heap.size < w2.heap.size := (by omega)); (try have y20p : w.heap.size < w2.heap.size + 1 := (by omega)); (try have y21 : w.heap.size + 1 < w2.heap.size := (by omega)); (try have y21p : w.heap.size + 1 < w2.heap.size + 1 := (by omega)); (try have y22 : w.heap.size + 1 + 1 < w2.heap.size := (by omega)); (try have y22p : w.heap.size + 1 + 1 < w2.heap.size + 1 := (by omega)); (try have v0x2 : w0.heap.size < w2.heap.size := (by omega)); (try have v0x2p : w0.heap.size < w2.heap.size + 1 := (by omega)); (try have v1x2 : w1.heap.size < w2.heap.size := (by omega)); (try have v1x2p : w1.heap.size < w2.heap.size + 1 := (by omega))))
  go_ret
  refine ⟨rfl, ?_⟩
  repeat (first | with_reducible exact Below.refl _ _ | with_reducible refine Below.setCell ?_ ?_ _ | with_reducible refine Below.alloc ?_ ?_ _ | with_reducible refine Below.drew ?_ | with_reducible refine below_drewN ?_ _ | (refine Below.trans ?_ (bmono (by assumption) ?_)))
  all_goals (first | omega | (simp <;> omega))
theorem dep_spec {m t f : Int} (hm : 0 ≤ m) (ht : t ≤ 0) : 0 ≤ depI m t f ∧ depI m t f ≤ m ∧ t + f * depI m t f ≤ 0 ∧ (depI m t f = m ∨ 0 < t + f * (depI m t f + 1)) := by
  unfold depI
  split
  · rename_i hf
    have : f * m ≤ 0 := Int.mul_nonpos_of_nonpos_of_nonneg hf hm
    omega
  · rename_i hf
    have h0 : 0 < f := by omega
    have h1 := Int.mul_ediv_add_emod (-t) f
    have h2 := Int.emod_nonneg (-t) (b := f) (by omega)
    have h3 := Int.emod_lt_of_pos (-t) h0
    have h4 : 0 ≤ -t / f := Int.ediv_nonneg (by omega) (by omega)
    split
    · rename_i hq
      have h5 : f * m ≤ f * (-t / f) := Int.mul_le_mul_of_nonneg_left hq (by omega)
      omega
    · rw [Int.mul_add, Int.mul_one]
      omega
theorem planeMoves_any (a b c d x y z p q r k m : Int) (w : World) :
    Calls Try.prog 12 #[.agg #[.int .i64 a, .int .i64 b, .int .i64 c, .int .i64 d], .agg #[.int .i64 x, .int .i64 y, .int .i64 z, .int .i64 p, .int .i64 q, .int .i64 r], .int .i64 k, .int .i64 m] w fun e w' => e = .returned (.bool true) ∧ Below w.heap.size w w' := by
  by_cases h : eHB a b c d x y z p q r = 0
  · by_cases hr : k < 0 ∨ 5 < k ∨ m < 0 ∨ 1000000 < m
    · exact planeMoves_err a b c d x y z p q r k m 6 (Depth_range a b c d x y z p q r k m h hr) (by decide) w
    · have g1 : 0 ≤ k := by omega
      have g2 : k ≤ 5 := by omega
      have g3 : 0 ≤ m := by omega
      have g4 : m ≤ 1000000 := by omega
      rcases Int.lt_or_le 0 (hiS a b c d x y z p q r) with hs | hs
      · exact planeMoves_err a b c d x y z p q r k m 8 (Depth_state a b c d x y z p q r k m h g1 g2 g3 g4 hs) (by decide) w
      · have v := val_of h
        have i1 := inC_iff.1 v.cx; have i2 := inC_iff.1 v.cy; have i3 := inC_iff.1 v.cz; have i4 := inC_iff.1 v.cp; have i5 := inC_iff.1 v.cq; have i6 := inC_iff.1 v.cr
        obtain ⟨d1, d2, d3, d4⟩ := dep_spec (m := m) (t := hiS a b c d x y z p q r) (f := dirI a b c k) g3 hs
        have hd := Depth_ok a b c d x y z p q r k m h g1 g2 g3 g4 hs
        generalize depI m (hiS a b c d x y z p q r) (dirI a b c k) = n at hd d1 d2 d3 d4
        refine planeMoves_gen a b c d x y z p q r k m n _ _ _ _ _ _ _ _ _ _ _ _ _ _ _ _ g1 g2 d1 d2 g4 hd (moved_any x y z p q r k n g1 g2 (by omega) i1 i2 i3 i4 i5 i6) (Side_all _ _ _ _ _ _ _ _ _ _)
          (moved_any x y z p q r k (n + 1) g1 g2 (by omega) i1 i2 i3 i4 i5 i6) (Side_all _ _ _ _ _ _ _ _ _ _) ?_ ?_ w
        · intro he
          unfold sdI
          rw [if_pos he, side_one, hi_move _ _ _ _ _ _ _ _ _ _ _ _ g1 g2]
          exact d3
        · rcases d4 with d4 | d4
          · exact .inl d4
          · refine .inr ?_
            by_cases he : eHB a b c d (x + dX k (n + 1)) (y + dY k (n + 1)) (z + dZ k (n + 1)) (p + dX k (n + 1)) (q + dY k (n + 1)) (r + dZ k (n + 1)) = 0
            · refine .inr fun h1 => ?_
              unfold sdI at h1
              rw [if_pos he, side_one, hi_move _ _ _ _ _ _ _ _ _ _ _ _ g1 g2] at h1
              omega
            · exact .inl he
  · exact planeMoves_err a b c d x y z p q r k m _ (Depth_bad a b c d x y z p q r k m h) h w

set_option maxHeartbeats 800000 in
set_option maxRecDepth 100000 in
theorem planeMoves_lifted (os : Os) (started : os.Started) (H : Type) (enc : TypeId × Value → H) :
    ReturnsInHanded {} Try.checked os 12 .any (Rows.planeMovesSpec.pre6 enc Try.prog Try.f12 Rows.planeMovesRow.domain false) (Rows.planeMovesSpec.post enc Try.prog Try.f12 false true false false) := by
  refine returnsInHanded_of_change (C := Try.checked) Try.own started (by kernel_rfl) Try.func12
    (ChangeSpec.witness6 (enc := enc) (C := Try.checked) false ⟨#[], #[.agg #[.int .i64 0, .int .i64 0, .int .i64 0, .int .i64 0], .agg #[.int .i64 0, .int .i64 0, .int .i64 0, .int .i64 0, .int .i64 0, .int .i64 0], .int .i64 0, .int .i64 0], []⟩ 8 (by kernel_rfl) (by kernel_rfl) (by kernel_rfl) (by kernel_rfl)) ?_
  intro W base args ds gs before hval0 hW _ _
  have hval : ∀ (j : Nat) t v, Try.f12.params[j]? = some t → args[j]? = some v → Value.okWide Try.prog W .any base t v := hval0
  have hW' := hW
  obtain ⟨p, q, hA0, hV, rfl, _, _⟩ := hW
  have hA : DataW.TrodAll enc Try.prog W 0 (fun _ => true) true Try.f12.params.toList args.toList ds p := hA0
  rw [Try.params12] at hA hval
  obtain ⟨v0, v1, v2, v3, d0, d1, d2, d3, p0, p1, p2, p3, rfl, rfl, rfl, h0, h1, h2, h3⟩ := trodAll_four hA
  obtain ⟨rfl, rfl⟩ := trodVars_none hV
  clear hA0 hval0
  simp only [List.append_nil] at hW'
  have harg0 : ∀ W' : World, Below W.heap.size W W' → DataW.Trod enc Try.prog W' 0 (fun b => decide (b < W.heap.size)) true 32 v0 d0 p0 :=
    fun W' hn => Below.trod Try.laidOut (by kernel_rfl) (of_decide_eq_true (by kernel_rfl)) h0 hn (fun y hy => by simpa using hW'.lt y (by simp [hy]))
  have harg1 : ∀ W' : World, Below W.heap.size W W' → DataW.Trod enc Try.prog W' 0 (fun b => decide (b < W.heap.size)) true 42 v1 d1 p1 :=
    fun W' hn => Below.trod Try.laidOut (by kernel_rfl) (of_decide_eq_true (by kernel_rfl)) h1 hn (fun y hy => by simpa using hW'.lt y (by simp [hy]))
  have harg2 : ∀ W' : World, Below W.heap.size W W' → DataW.Trod enc Try.prog W' 0 (fun b => decide (b < W.heap.size)) true 3 v2 d2 p2 :=
    fun W' hn => Below.trod Try.laidOut (by kernel_rfl) (of_decide_eq_true (by kernel_rfl)) h2 hn (fun y hy => by simpa using hW'.lt y (by simp [hy]))
  have harg3 : ∀ W' : World, Below W.heap.size W W' → DataW.Trod enc Try.prog W' 0 (fun b => decide (b < W.heap.size)) true 3 v3 d3 p3 :=
    fun W' hn => Below.trod Try.laidOut (by kernel_rfl) (of_decide_eq_true (by kernel_rfl)) h3 hn (fun y hy => by simpa using hW'.lt y (by simp [hy]))
  obtain ⟨a, b, c, d, rfl⟩ := open_half (hval 0 32 v0 rfl rfl) h0
  obtain ⟨x, y, z, p, q, r, rfl⟩ := open_box (hval 1 42 v1 rfl rfl) h1
  obtain ⟨k, rfl, _, _, _⟩ := open_int Try.underlying3 (hval 2 3 v2 rfl rfl) h2
  obtain ⟨m, rfl, _, _, _⟩ := open_int Try.underlying3 (hval 3 3 v3 rfl rfl) h3
  refine (planeMoves_any a b c d x y z p q r k m W).mono fun e W' ⟨he, hn⟩ => ?_
  subst he
  exact ⟨_, rfl, _, _, _, [], _, [], hW', trodAll_mk1 (shut_bool Try.underlying4 _), trodAll_mk4 (harg0 _ hn) (harg1 _ hn) (harg2 _ hn) (harg3 _ hn), (List.append_nil _).symm, hn.frame _, fun h => by cases h⟩

theorem planeMoves_holds : Rows.PlaneMovesSaid :=
  OpenClaim.holds_of_wide 12 Try.f12 rfl rfl rfl rfl rfl rfl rfl ⟨rfl, rfl, rfl, rfl, rfl⟩ rfl rfl rfl rfl rfl (by kernel_rfl) Try.func12 (by kernel_rfl)
    (of_decide_eq_true (by kernel_rfl)) (by unfold Func.isWrapper; first | (rw [if_pos (by decide +kernel)]; kernel_rfl) | (rw [if_neg (by decide +kernel)]; exact ⟨rfl, rfl⟩))
    (fun os started H enc _ => planeMoves_lifted os started H enc)
end Go.Proofs.Ytoeniaafcnnnoaa
