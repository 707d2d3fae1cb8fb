/- The law VectorProducts: it answers true, whatever the two vectors; and the claim. -/
import Derived.Test.YthlidkmalfjmbaaAwk
import Derived.Test.YthlidkmalfjmbaaLawm
import Derived.Test.YthlidkmalfjmbaaLift
namespace Go.Proofs.Ythlidkmalfjmbaa
open Go.ChangeShapes Go.WideShapes Go.ChangeAt Go.RowKit

theorem refDot_in (x y z a b c : Int) (B : Nat) (hB : B ≤ 2000000) (hx : x.natAbs ≤ B) (hy : y.natAbs ≤ B) (hz : z.natAbs ≤ B) (ha : a.natAbs ≤ B) (hb : b.natAbs ≤ B) (hc : c.natAbs ≤ B) (w : World) :
    Calls Try.prog 25 #[.agg #[.int .i64 x, .int .i64 y, .int .i64 z], .agg #[.int .i64 a, .int .i64 b, .int .i64 c]] w fun e w' => e = .returned (.int .i64 (x * a + y * b + z * c)) ∧ Below w.heap.size w w' := by
  have h := refDot_any x y z a b c w
  have p1 := mul_bd (B := 2000000) (Nat.le_trans hx hB) (Nat.le_trans ha hB)
  have p2 := mul_bd (B := 2000000) (Nat.le_trans hy hB) (Nat.le_trans hb hB)
  have p3 := mul_bd (B := 2000000) (Nat.le_trans hz hB) (Nat.le_trans hc hB)
  rw [w64 (n := x * a) (by omega), w64 (n := y * b) (by omega), w64 (n := z * c) (by omega), w64 (n := x * a + y * b) (by omega), w64 (by omega)] at h
  exact h
theorem keepsB3 {f : FuncId} {args : Array Value} {v : Value} {wc : World} (h : ∀ W, Calls Try.prog f args W fun e w' => e = .returned v ∧ Below W.heap.size W w') :
    ∀ W, Below wc.heap.size wc W → Calls Try.prog f args W fun e w' => e = .returned v ∧ Below wc.heap.size wc w' :=
  fun W hk => (h W).mono fun _ _ ⟨he, hb⟩ => ⟨he, hk.trans (bmono hb hk.size)⟩

set_option maxHeartbeats 8000000 in
set_option maxRecDepth 100000 in
theorem prods_ok (x y z a b c : Int) (h1 : inV x y z = true) (h2 : inV a b c = true) (w : World) :
    Calls Try.prog 4 #[.agg #[.int .i64 x, .int .i64 y, .int .i64 z], .agg #[.int .i64 a, .int .i64 b, .int .i64 c]] w fun e w' => e = .returned (.bool true) ∧ Below w.heap.size w w' := by
  obtain ⟨b1, b2, b3⟩ := inV_abs h1
  obtain ⟨b4, b5, b6⟩ := inV_abs h2
  have c1 := Dot_any x y z a b c
  rw [show dotV x y z a b c = (x * a + y * b + z * c, 0) by simp only [dotV, h1, h2, Bool.and_self, if_true]] at c1
  have c2 := cross_ok x y z a b c h1 h2
  have c3 := dist_any x y z a b c
  rw [show distV x y z a b c = ((x + -1 * a) * (x + -1 * a) + (y + -1 * b) * (y + -1 * b) + (z + -1 * c) * (z + -1 * c), 0) by simp only [distV, h1, h2, Bool.and_self, if_true]] at c3
  have i1 := refIn_any x y z
  have i2 := refIn_any a b c
  rw [h1] at i1
  rw [h2] at i2
  have c4 := refSub_any x y z a b c
  rw [w64 (n := x - a) (by omega), w64 (n := y - b) (by omega), w64 (n := z - c) (by omega), show x - a = x + -1 * a by omega, show y - b = y + -1 * b by omega, show z - c = z + -1 * c by omega] at c4
  have d1 := refDot_in x y z a b c 1000000 (by omega) b1 b2 b3 b4 b5 b6
  have d2 := refCross_any x y z a b c
  have d3 := refDot_in (x + -1 * a) (y + -1 * b) (z + -1 * c) (x + -1 * a) (y + -1 * b) (z + -1 * c) 2000000 (by omega) (by omega) (by omega) (by omega) (by omega) (by omega) (by omega)
  simp only at c1 c3
  clear h1 h2 b1 b2 b3 b4 b5 b6
  generalize (x + -1 * a) * (x + -1 * a) + (y + -1 * b) * (y + -1 * b) + (z + -1 * c) * (z + -1 * c) = D at c3 d3
  generalize x + -1 * a = s1 at c4 d3
  generalize y + -1 * b = s2 at c4 d3
  generalize z + -1 * c = s3 at c4 d3
  generalize wrap64 (wrap64 (y * c) - wrap64 (z * b)) = k1 at c2 d2
  generalize wrap64 (wrap64 (z * a) - wrap64 (x * c)) = k2 at c2 d2
  generalize wrap64 (wrap64 (x * b) - wrap64 (y * a)) = k3 at c2 d2
  generalize x * a + y * b + z * c = n at c1 d1
  have e3 := eqA3 k1 k2 k3 k1 k2 k3
  rw [show (k1 == k1 && (k2 == k2 && k3 == k3)) = true by simp] at e3
  go_enter Try.func4, Try.ntmps4
  go_upto_region 9 with (first
    | (go_at_call 12; refine (awake_any _).mono ?_; rintro e w0 ⟨rfl, hb0⟩; obtain ⟨hc0, hf0⟩ := bcell hb0; have hz0 := hb0.size; (try simp at hz0); (try have y00 : w.heap.size < w0.heap.size := (by omega)); (try have y00p : w.heap.size < w0.heap.size + 1 := (by omega)); (try have y01 : w.heap.size + 1 < w0.heap.size := (by omega)); (try have y01p : w.heap.size + 1 < w0.heap.size + 1 := (by omega)))
    | (go_at_call 22; refine (c1 _).mono ?_; rintro e w1 ⟨rfl, hb1⟩; obtain ⟨hc1, hf1⟩ := bcell hb1; have hz1 := hb1.size; (try simp at hz1); (try have y10 : w.heap.size < w1.heap.size := (by omega)); (try have y10p : w.heap.size < w1.heap.size + 1 := (by omega)); (try have y11 : w.heap.size + 1 < w1.heap.size := (by omega)); (try have y11p : w.heap.size + 1 < w1.heap.size + 1 := (by omega)); (try have v0x1 : w0.heap.size < w1.heap.size := (by omega)); (try have v0x1p : w0.heap.size < w1.heap.size + 1 := (by omega)))
    | (go_at_call 23; refine (c2 _).mono ?_; rintro e w2 ⟨rfl, hb2⟩; obtain ⟨hc2, hf2⟩ := bcell hb2; have hz2 := hb2.size; (try simp at hz2); (try have y20 : w.heap.size < w2.heap.size := (by omega)); (try have y20p : w.heap.size < w2.heap.size + 1 := (by omega)); (try have y21 : w.heap.size + 1 < w2.heap.size := (by omega)); (try have y21p : w.heap.size + 1 < w2.heap.size + 1 := (by omega)); (try have v0x2 : w0.heap.size < w2.heap.size := (by omega)); (try have v0x2p : w0.heap.size < w2.heap.size + 1 := (by omega)); (try have v1x2 : w1.heap.size < w2.heap.size := (by omega)); (try have v1x2p : w1.heap.size < w2.heap.size + 1 := (by omega)))
    | (go_at_call 24; refine (c3 _).mono ?_; rintro e w3 ⟨rfl, hb3⟩; obtain ⟨hc3, hf3⟩ := bcell hb3; have hz3 := hb3.size; (try simp at hz3); (try have y30 : w.heap.size < w3.heap.size := (by omega)); (try have y30p : w.heap.size < w3.heap.size + 1 := (by omega)); (try have y31 : w.heap.size + 1 < w3.heap.size := (by omega)); (try have y31p : w.heap.size + 1 < w3.heap.size + 1 := (by omega)); (try have v0x3 : w0.heap.size < w3.heap.size := (by omega)); (try have v0x3p : w0.heap.size < w3.heap.size + 1 := (by omega)); (try have v1x3 : w1.heap.size < w3.heap.size := (by omega)); (try have v1x3p : w1.heap.size < w3.heap.size + 1 := (by omega)); (try have v2x3 : w2.heap.size < w3.heap.size := (by omega)); (try have v2x3p : w2.heap.size < w3.heap.size + 1 := (by omega)))
    | (revert hb4; intro hb4; go_at_call 16; refine (i2 _).mono ?_; rintro e w5 ⟨rfl, hb5⟩; obtain ⟨hc5, hf5⟩ := bcell hb5; have hz5 := hb5.size; (try simp at hz5); (try have y50 : w.heap.size < w5.heap.size := (by omega)); (try have y50p : w.heap.size < w5.heap.size + 1 := (by omega)); (try have y51 : w.heap.size + 1 < w5.heap.size := (by omega)); (try have y51p : w.heap.size + 1 < w5.heap.size + 1 := (by omega)); (try have v0x5 : w0.heap.size < w5.heap.size := (by omega)); (try have v0x5p : w0.heap.size < w5.heap.size + 1 := (by omega)); (try have v1x5 : w1.heap.size < w5.heap.size := (by omega)); (try have v1x5p : w1.heap.size < w5.heap.size + 1 := (by omega)); (try have v2x5 : w2.heap.size < w5.heap.size := (by omega)); (try have v2x5p : w2.heap.size < w5.heap.size + 1 := (by omega)); (try have v3x5 : w3.heap.size < w5.heap.size := (by omega)); (try have v3x5p : w3.heap.size < w5.heap.size + 1 := (by omega)); (try have v4x5 : w4.heap.size < w5.heap.size := (by omega)); (try have v4x5p : w4.heap.size < w5.heap.size + 1 := (by omega)))
    | (go_at_call 16; refine (i1 _).mono ?_; rintro e w4 ⟨rfl, hb4⟩; obtain ⟨hc4, hf4⟩ := bcell hb4; have hz4 := hb4.size; (try simp at hz4); (try have y40 : w.heap.size < w4.heap.size := (by omega)); (try have y40p : w.heap.size < w4.heap.size + 1 := (by omega)); (try have y41 : w.heap.size + 1 < w4.heap.size := (by omega)); (try have y41p : w.heap.size + 1 < w4.heap.size + 1 := (by omega)); (try have v0x4 : w0.heap.size < w4.heap.size := (by omega)); (try have v0x4p : w0.heap.size < w4.heap.size + 1 := (by omega)); (try have v1x4 : w1.heap.size < w4.heap.size := (by omega)); (try have v1x4p : w1.heap.size < w4.heap.size + 1 := (by omega)); (try have v2x4 : w2.heap.size < w4.heap.size := (by omega)); (try have v2x4p : w2.heap.size < w4.heap.size + 1 := (by omega)); (try have v3x4 : w3.heap.size < w4.heap.size := (by omega)); (try have v3x4p : w3.heap.size < w4.heap.size + 1 := (by omega)))
    | (go_at_call 21; refine (c4 _).mono ?_; rintro e w6 ⟨rfl, hb6⟩; obtain ⟨hc6, hf6⟩ := bcell hb6; have hz6 := hb6.size; (try simp at hz6); (try have y60 : w.heap.size < w6.heap.size := (by omega)); (try have y60p : w.heap.size < w6.heap.size + 1 := (by omega)); (try have y61 : w.heap.size + 1 < w6.heap.size := (by omega)); (try have y61p : w.heap.size + 1 < w6.heap.size + 1 := (by omega)); (try have v0x6 : w0.heap.size < w6.heap.size := (by omega)); (try have v0x6p : w0.heap.size < w6.heap.size + 1 := (by omega)); (try have v1x6 : w1.heap.size < w6.heap.size := (by omega)); (try have v1x6p : w1.heap.size < w6.heap.size + 1 := (by omega)); (try have v2x6 : w2.heap.size < w6.heap.size := (by omega)); (try have v2x6p : w2.heap.size < w6.heap.size + 1 := (by omega)); (try have v3x6 : w3.heap.size < w6.heap.size := (by omega)); (try have v3x6p : w3.heap.size < w6.heap.size + 1 := (by omega)); (try have v4x6 : w4.heap.size < w6.heap.size := (by omega)); (try have v4x6p : w4.heap.size < w6.heap.size + 1 := (by omega)); (try have v5x6 : w5.heap.size < w6.heap.size := (by omega)); (try have v5x6p : w5.heap.size < w6.heap.size + 1 := (by omega))))
  have hk2 : K2 x y z a b c w w2 := ((K2.start.over hb0).over hb1).over hb2
  have hk6 := (((((hk2.alloc (.cells #[.int .i64 k1, .int .i64 k2, .int .i64 k3] 36)).over hb3).over hb4).over hb5).over hb6)
  have hk7 := hk6.alloc (.cells #[.int .i64 s1, .int .i64 s2, .int .i64 s3] 23)
  have hB := (((((Blk.new w2 36 #[.int .i64 k1, .int .i64 k2, .int .i64 k3]).below hb3 (by simp)).below hb4 (by omega)).below hb5 (by omega)).below hb6 (by omega)).alloc (.cells #[.int .i64 s1, .int .i64 s2, .int .i64 s3] 23)
  have hS : Blk (w6.alloc (.cells #[.int .i64 s1, .int .i64 s2, .int .i64 s3] 23)) w6.heap.size 23 #[.int .i64 s1, .int .i64 s2, .int .i64 s3] := Blk.new _ _ _
  have hall : ∀ W, Below (w6.alloc (.cells #[.int .i64 s1, .int .i64 s2, .int .i64 s3] 23)).heap.size (w6.alloc (.cells #[.int .i64 s1, .int .i64 s2, .int .i64 s3] 23)) W →
      Below (w6.alloc (.cells #[.int .i64 s1, .int .i64 s2, .int .i64 s3] 23)).heap.size (w6.alloc (.cells #[.int .i64 s1, .int .i64 s2, .int .i64 s3] 23)) W ∧ w.heap.size + 1 < W.heap.size ∧
      (W.cell? ⟨w.heap.size, 0, none⟩ = some (.int .i64 x) ∧ W.cell? ⟨w.heap.size, 1, none⟩ = some (.int .i64 y) ∧ W.cell? ⟨w.heap.size, 2, none⟩ = some (.int .i64 z) ∧
      W.cell? ⟨w.heap.size + 1, 0, none⟩ = some (.int .i64 a) ∧ W.cell? ⟨w.heap.size + 1, 1, none⟩ = some (.int .i64 b) ∧ W.cell? ⟨w.heap.size + 1, 2, none⟩ = some (.int .i64 c)) ∧
      (W.cell? ⟨w2.heap.size, 0, none⟩ = some (.int .i64 k1) ∧ W.cell? ⟨w2.heap.size, 1, none⟩ = some (.int .i64 k2) ∧ W.cell? ⟨w2.heap.size, 2, none⟩ = some (.int .i64 k3)) ∧
      W.cell? ⟨w6.heap.size, 0, none⟩ = some (.int .i64 s1) ∧ W.cell? ⟨w6.heap.size, 1, none⟩ = some (.int .i64 s2) ∧ W.cell? ⟨w6.heap.size, 2, none⟩ = some (.int .i64 s3) :=
    fun W hb => ⟨hb, (hk7.over hb).all.2.1, (hk7.over hb).all.2.2, blk3 (hB.below hb hB.lt), blk3 (hS.below hb hS.lt)⟩
  have hb9 := hk7.1
  clear hk2 hk6 hk7 hB hS hb0 hb1 hb2 hb3 hb4 hb5 hb6 hc0 hc1 hc2 hc3 hc4 hc5 hc6 hf0 hf1 hf2 hf3 hf4 hf5 hf6
  obtain ⟨wd, hwd⟩ : ∃ wd, wd = w6.alloc (.cells #[.int .i64 s1, .int .i64 s2, .int .i64 s3] 23) := ⟨_, rfl⟩
  rw [← hwd] at hall hb9 ⊢
  clear hwd
  have D1 := keepsB3 (wc := wd) d1
  have D2 := keepsB3 (wc := wd) d2
  have D3 := keepsB3 (wc := wd) d3
  have hka := hall wd (Below.refl _ _)
  go_region_held3 (fun W => Below wd.heap.size wd W ∧ w.heap.size + 1 < W.heap.size ∧
      (W.cell? ⟨w.heap.size, 0, none⟩ = some (.int .i64 x) ∧ W.cell? ⟨w.heap.size, 1, none⟩ = some (.int .i64 y) ∧ W.cell? ⟨w.heap.size, 2, none⟩ = some (.int .i64 z) ∧
      W.cell? ⟨w.heap.size + 1, 0, none⟩ = some (.int .i64 a) ∧ W.cell? ⟨w.heap.size + 1, 1, none⟩ = some (.int .i64 b) ∧ W.cell? ⟨w.heap.size + 1, 2, none⟩ = some (.int .i64 c)) ∧
      (W.cell? ⟨w2.heap.size, 0, none⟩ = some (.int .i64 k1) ∧ W.cell? ⟨w2.heap.size, 1, none⟩ = some (.int .i64 k2) ∧ W.cell? ⟨w2.heap.size, 2, none⟩ = some (.int .i64 k3)) ∧
      W.cell? ⟨w6.heap.size, 0, none⟩ = some (.int .i64 s1) ∧ W.cell? ⟨w6.heap.size, 1, none⟩ = some (.int .i64 s2) ∧ W.cell? ⟨w6.heap.size, 2, none⟩ = some (.int .i64 s3))
    (first | exact hka | exact hall _ ‹_› | exact hall _ (Below.drew ‹_›) | exact hall _ (Below.drew (Below.refl _ _)))
    (first
      | (go_at_call 26; refine (D2 _ ?_).mono ?_; (first | assumption | exact And.left ‹_›); rintro e W2 ⟨rfl, hk2⟩)
      | (go_at_call_of 25 s1; refine (D3 _ ?_).mono ?_; (first | assumption | exact And.left ‹_›); rintro e W3 ⟨rfl, hk3⟩)
      | (go_at_call_of 25 x; refine (D1 _ ?_).mono ?_; (first | assumption | exact And.left ‹_›); rintro e W1 ⟨rfl, hk1⟩))
  all_goals
    go_wp2
    go_ret
    refine ⟨rfl, hb9.trans (bmono hk3 (by have := hb9.size; omega))⟩
set_option maxHeartbeats 4000000 in
theorem prods_bad (x y z a b c : Int) (h : (inV x y z && inV a b c) = false) (w : World) :
    Calls Try.prog 4 #[.agg #[.int .i64 x, .int .i64 y, .int .i64 z], .agg #[.int .i64 a, .int .i64 b, .int .i64 c]] w fun e w' => e = .returned (.bool true) ∧ Below w.heap.size w w' := by
  have c1 := Dot_any x y z a b c
  rw [show dotV x y z a b c = (0, 6) by simp only [dotV, h, Bool.false_eq_true, if_false]] at c1
  have c2 := cross_bad x y z a b c h
  have c3 := dist_any x y z a b c
  rw [show distV x y z a b c = (0, 6) by simp only [distV, h, Bool.false_eq_true, if_false]] at c3
  have i1 := refIn_any x y z
  have i2 := refIn_any a b c
  have e3 := eqA3 0 0 0 0 0 0
  rw [show ((0 : Int) == 0 && ((0 : Int) == 0 && (0 : Int) == 0)) = true by decide] at e3
  simp only at c1 c3
  generalize inV x y z = p at h i1
  generalize inV a b c = q at h i2
  have hh : p = false ∨ (p = true ∧ q = false) := by cases p <;> cases q <;> simp_all
  clear h
  rcases hh with rfl | ⟨rfl, rfl⟩
  all_goals
    go_enter Try.func4, Try.ntmps4
    go_wp2_with (first
      | (go_at_call 12; refine (awake_any _).mono ?_; rintro e w0 ⟨rfl, hb0⟩; obtain ⟨hc0, hf0⟩ := bcell hb0; have hz0 := hb0.size; (try simp at hz0); (try have y00 : w.heap.size < w0.heap.size := (by omega)); (try have y00p : w.heap.size < w0.heap.size + 1 := (by omega)); (try have y01 : w.heap.size + 1 < w0.heap.size := (by omega)); (try have y01p : w.heap.size + 1 < w0.heap.size + 1 := (by omega)))
      | (go_at_call 22; refine (c1 _).mono ?_; rintro e w1 ⟨rfl, hb1⟩; obtain ⟨hc1, hf1⟩ := bcell hb1; have hz1 := hb1.size; (try simp at hz1); (try have y10 : w.heap.size < w1.heap.size := (by omega)); (try have y10p : w.heap.size < w1.heap.size + 1 := (by omega)); (try have y11 : w.heap.size + 1 < w1.heap.size := (by omega)); (try have y11p : w.heap.size + 1 < w1.heap.size + 1 := (by omega)); (try have v0x1 : w0.heap.size < w1.heap.size := (by omega)); (try have v0x1p : w0.heap.size < w1.heap.size + 1 := (by omega)))
      | (go_at_call 23; refine (c2 _).mono ?_; rintro e w2 ⟨rfl, hb2⟩; obtain ⟨hc2, hf2⟩ := bcell hb2; have hz2 := hb2.size; (try simp at hz2); (try have y20 : w.heap.size < w2.heap.size := (by omega)); (try have y20p : w.heap.size < w2.heap.size + 1 := (by omega)); (try have y21 : w.heap.size + 1 < w2.heap.size := (by omega)); (try have y21p : w.heap.size + 1 < w2.heap.size + 1 := (by omega)); (try have v0x2 : w0.heap.size < w2.heap.size := (by omega)); (try have v0x2p : w0.heap.size < w2.heap.size + 1 := (by omega)); (try have v1x2 : w1.heap.size < w2.heap.size := (by omega)); (try have v1x2p : w1.heap.size < w2.heap.size + 1 := (by omega)))
      | (go_at_call 24; refine (c3 _).mono ?_; rintro e w3 ⟨rfl, hb3⟩; obtain ⟨hc3, hf3⟩ := bcell hb3; have hz3 := hb3.size; (try simp at hz3); (try have y30 : w.heap.size < w3.heap.size := (by omega)); (try have y30p : w.heap.size < w3.heap.size + 1 := (by omega)); (try have y31 : w.heap.size + 1 < w3.heap.size := (by omega)); (try have y31p : w.heap.size + 1 < w3.heap.size + 1 := (by omega)); (try have v0x3 : w0.heap.size < w3.heap.size := (by omega)); (try have v0x3p : w0.heap.size < w3.heap.size + 1 := (by omega)); (try have v1x3 : w1.heap.size < w3.heap.size := (by omega)); (try have v1x3p : w1.heap.size < w3.heap.size + 1 := (by omega)); (try have v2x3 : w2.heap.size < w3.heap.size := (by omega)); (try have v2x3p : w2.heap.size < w3.heap.size + 1 := (by omega)))
      | (revert hb4; intro hb4; go_at_call 16; refine (i2 _).mono ?_; rintro e w5 ⟨rfl, hb5⟩; obtain ⟨hc5, hf5⟩ := bcell hb5; have hz5 := hb5.size; (try simp at hz5); (try have y50 : w.heap.size < w5.heap.size := (by omega)); (try have y50p : w.heap.size < w5.heap.size + 1 := (by omega)); (try have y51 : w.heap.size + 1 < w5.heap.size := (by omega)); (try have y51p : w.heap.size + 1 < w5.heap.size + 1 := (by omega)); (try have v0x5 : w0.heap.size < w5.heap.size := (by omega)); (try have v0x5p : w0.heap.size < w5.heap.size + 1 := (by omega)); (try have v1x5 : w1.heap.size < w5.heap.size := (by omega)); (try have v1x5p : w1.heap.size < w5.heap.size + 1 := (by omega)); (try have v2x5 : w2.heap.size < w5.heap.size := (by omega)); (try have v2x5p : w2.heap.size < w5.heap.size + 1 := (by omega)); (try have v3x5 : w3.heap.size < w5.heap.size := (by omega)); (try have v3x5p : w3.heap.size < w5.heap.size + 1 := (by omega)); (try have v4x5 : w4.heap.size < w5.heap.size := (by omega)); (try have v4x5p : w4.heap.size < w5.heap.size + 1 := (by omega)))
      | (go_at_call 16; refine (i1 _).mono ?_; rintro e w4 ⟨rfl, hb4⟩; obtain ⟨hc4, hf4⟩ := bcell hb4; have hz4 := hb4.size; (try simp at hz4); (try have y40 : w.heap.size < w4.heap.size := (by omega)); (try have y40p : w.heap.size < w4.heap.size + 1 := (by omega)); (try have y41 : w.heap.size + 1 < w4.heap.size := (by omega)); (try have y41p : w.heap.size + 1 < w4.heap.size + 1 := (by omega)); (try have v0x4 : w0.heap.size < w4.heap.size := (by omega)); (try have v0x4p : w0.heap.size < w4.heap.size + 1 := (by omega)); (try have v1x4 : w1.heap.size < w4.heap.size := (by omega)); (try have v1x4p : w1.heap.size < w4.heap.size + 1 := (by omega)); (try have v2x4 : w2.heap.size < w4.heap.size := (by omega)); (try have v2x4p : w2.heap.size < w4.heap.size + 1 := (by omega)); (try have v3x4 : w3.heap.size < w4.heap.size := (by omega)); (try have v3x4p : w3.heap.size < w4.heap.size + 1 := (by omega))))
    go_ret
    refine ⟨rfl, ?_⟩
    repeat (first | exact Below.refl _ _ | refine Below.drew ?_ | refine below_drewN ?_ _ | refine Below.setCell ?_ ?_ _ | refine Below.alloc ?_ ?_ _ | (refine Below.trans ?_ (bmono (by assumption) ?_)))
    all_goals (first | omega | (simp <;> omega))
theorem vectorProducts_any (x y z a b c : Int) (w : World) :
    Calls Try.prog 4 #[.agg #[.int .i64 x, .int .i64 y, .int .i64 z], .agg #[.int .i64 a, .int .i64 b, .int .i64 c]] w fun e w' => e = .returned (.bool true) ∧ Below w.heap.size w w' := by
  cases h : inV x y z && inV a b c
  · exact prods_bad x y z a b c h w
  · rw [Bool.and_eq_true] at h
    exact prods_ok x y z a b c h.1 h.2 w

set_option maxHeartbeats 800000 in
set_option maxRecDepth 100000 in
theorem vectorProducts_lifted (os : Os) (started : os.Started) (H : Type) (enc : TypeId × Value → H) :
    ReturnsInHanded {} Try.checked os 4 .any (Rows.vectorProductsSpec.pre6 enc Try.prog Try.f4 Rows.vectorProductsRow.domain false) (Rows.vectorProductsSpec.post enc Try.prog Try.f4 false true false false) := by
  refine returnsInHanded_of_change (C := Try.checked) Try.own started (by kernel_rfl) Try.func4
    (ChangeSpec.witness6 (enc := enc) (C := Try.checked) false ⟨#[], #[.agg #[.int .i64 0, .int .i64 0, .int .i64 0], .agg #[.int .i64 0, .int .i64 0, .int .i64 0]], []⟩ 8 (by kernel_rfl) (by kernel_rfl) (by kernel_rfl) (by kernel_rfl)) ?_
  intro W base args ds gs before hval0 hW _ _
  have hval : ∀ (j : Nat) t v, Try.f4.params[j]? = some t → args[j]? = some v → Value.okWide Try.prog W .any base t v := hval0
  have hW' := hW
  obtain ⟨p, q, hA0, hV, rfl, _, _⟩ := hW
  have hA : DataW.TrodAll enc Try.prog W 0 (fun _ => true) true Try.f4.params.toList args.toList ds p := hA0
  rw [Try.params4] at hA hval
  obtain ⟨v0, v1, d0, d1, p0, p1, rfl, rfl, rfl, h0, h1⟩ := trodAll_two hA
  obtain ⟨rfl, rfl⟩ := trodVars_none hV
  clear hA0 hval0
  simp only [List.append_nil] at hW'
  have harg0 : ∀ W' : World, Below W.heap.size W W' → DataW.Trod enc Try.prog W' 0 (fun b => decide (b < W.heap.size)) true 23 v0 d0 p0 :=
    fun W' hn => Below.trod Try.laidOut (by kernel_rfl) (of_decide_eq_true (by kernel_rfl)) h0 hn (fun y hy => by simpa using hW'.lt y (by simp [hy]))
  have harg1 : ∀ W' : World, Below W.heap.size W W' → DataW.Trod enc Try.prog W' 0 (fun b => decide (b < W.heap.size)) true 23 v1 d1 p1 :=
    fun W' hn => Below.trod Try.laidOut (by kernel_rfl) (of_decide_eq_true (by kernel_rfl)) h1 hn (fun y hy => by simpa using hW'.lt y (by simp [hy]))
  obtain ⟨x, y, z, rfl⟩ := open_vec (hval 0 23 v0 rfl rfl) h0
  obtain ⟨a, b, c, rfl⟩ := open_vec (hval 1 23 v1 rfl rfl) h1
  refine (vectorProducts_any x y z a b c W).mono fun e W' ⟨he, hn⟩ => ?_
  subst he
  exact ⟨_, rfl, _, _, _, [], _, [], hW', trodAll_mk1 (shut_bool Try.underlying4 _), trodAll_mk2 (harg0 _ hn) (harg1 _ hn), (List.append_nil _).symm, hn.frame _, fun h => by cases h⟩

theorem vectorProducts_holds : Rows.VectorProductsSaid :=
  OpenClaim.holds_of_wide 4 Try.f4 rfl rfl rfl rfl rfl rfl rfl ⟨rfl, rfl, rfl, rfl, rfl⟩ rfl rfl rfl rfl rfl (by kernel_rfl) Try.func4 (by kernel_rfl)
    (of_decide_eq_true (by kernel_rfl)) (by unfold Func.isWrapper; first | (rw [if_pos (by decide +kernel)]; kernel_rfl) | (rw [if_neg (by decide +kernel)]; exact ⟨rfl, rfl⟩))
    (fun os started H enc _ => vectorProducts_lifted os started H enc)
end Go.Proofs.Ythlidkmalfjmbaa
