/- Plain algebra of vectors: what Add, Sub, Dot, Cross and Distance say to each other. No condition. -/
import Derived.Test.YthlidkmalfjmbaaOps
import Derived.Test.YthlidkmalfjmbaaCross
namespace Go.Proofs.Ythlidkmalfjmbaa
open Go.RowKit

theorem sum_back {x y z a b c : Int} (h : (sumV 1 x y z a b c).2 = 0) : inV x y z = true ∧ inV a b c = true ∧ inV (x + 1 * a) (y + 1 * b) (z + 1 * c) = true ∧ (sumV 1 x y z a b c).1 = (x + 1 * a, y + 1 * b, z + 1 * c) ∧
    sumV (-1) (sumV 1 x y z a b c).1.1 (sumV 1 x y z a b c).1.2.1 (sumV 1 x y z a b c).1.2.2 a b c = ((x, y, z), 0) := by
  unfold sumV at h ⊢
  cases h1 : inV x y z <;> cases h2 : inV a b c <;> simp only [h1, h2, Bool.and_self, Bool.and_false, Bool.and_true, Bool.false_eq_true, if_false, if_true] at h ⊢ <;> try (exact absurd h (by decide))
  unfold bndV at h ⊢
  cases h3 : inV (x + 1 * a) (y + 1 * b) (z + 1 * c) <;> simp only [h3, Bool.false_eq_true, if_false, if_true] at h ⊢ <;> try (exact absurd h (by decide))
  have e1 : x + 1 * a + -1 * a = x := by omega
  have e2 : y + 1 * b + -1 * b = y := by omega
  have e3 : z + 1 * c + -1 * c = z := by omega
  rw [e1, e2, e3, h1]
  simp
theorem dot_comm (x y z a b c : Int) : dotV a b c x y z = dotV x y z a b c := by
  unfold dotV
  rw [Bool.and_comm, Int.mul_comm a, Int.mul_comm b, Int.mul_comm c]
def crossV (x y z a b c : Int) : (Int × Int × Int) × Int := if inV x y z && inV a b c then ((y * c - z * b, z * a - x * c, x * b - y * a), 0) else ((0, 0, 0), 6)
theorem cross_all (x y z a b c : Int) (w : World) :
    Calls Try.prog 23 #[.agg #[.int .i64 x, .int .i64 y, .int .i64 z], .agg #[.int .i64 a, .int .i64 b, .int .i64 c]] w fun e w' => e = .returned (.tuple #[.agg #[.int .i64 (crossV x y z a b c).1.1, .int .i64 (crossV x y z a b c).1.2.1, .int .i64 (crossV x y z a b c).1.2.2], .int .i64 (crossV x y z a b c).2]) ∧ Below w.heap.size w w' := by
  cases h : inV x y z && inV a b c
  · rw [show crossV x y z a b c = ((0, 0, 0), 6) by simp only [crossV, h, Bool.false_eq_true, if_false]]
    exact cross_bad x y z a b c h w
  · rw [show crossV x y z a b c = ((y * c - z * b, z * a - x * c, x * b - y * a), 0) by simp only [crossV, h, if_true]]
    rw [Bool.and_eq_true] at h
    obtain ⟨b1, b2, b3⟩ := inV_abs h.1
    obtain ⟨b4, b5, b6⟩ := inV_abs h.2
    have hh := cross_ok x y z a b c h.1 h.2 w
    have p1 := mul_bd (B := 1000000) b2 b6
    have p2 := mul_bd (B := 1000000) b3 b5
    have p3 := mul_bd (B := 1000000) b3 b4
    have p4 := mul_bd (B := 1000000) b1 b6
    have p5 := mul_bd (B := 1000000) b1 b5
    have p6 := mul_bd (B := 1000000) b2 b4
    rw [w64 (n := y * c) (by omega), w64 (n := z * b) (by omega), w64 (n := z * a) (by omega), w64 (n := x * c) (by omega), w64 (n := x * b) (by omega), w64 (n := y * a) (by omega),
      w64 (n := y * c - z * b) (by omega), w64 (n := z * a - x * c) (by omega), w64 (n := x * b - y * a) (by omega)] at hh
    exact hh
theorem cross_anti (x y z a b c : Int) : crossV a b c x y z = ((-(crossV x y z a b c).1.1, -(crossV x y z a b c).1.2.1, -(crossV x y z a b c).1.2.2), (crossV x y z a b c).2) := by
  unfold crossV
  rw [Bool.and_comm]
  split
  · simp only [Prod.mk.injEq, and_true]
    rw [Int.mul_comm b z, Int.mul_comm c y, Int.mul_comm c x, Int.mul_comm a z, Int.mul_comm a y, Int.mul_comm b x]
    refine ⟨?_, ?_, ?_⟩ <;> omega
  · rfl
theorem orth (x y z a b c : Int) : x * (y * c - z * b) + y * (z * a - x * c) + z * (x * b - y * a) = 0 ∧ a * (y * c - z * b) + b * (z * a - x * c) + c * (x * b - y * a) = 0 := by
  constructor <;> grind
theorem dist_move {x y z a b c p q r : Int} (h1 : (sumV 1 x y z p q r).2 = 0) (h2 : (sumV 1 a b c p q r).2 = 0) :
    (distV x y z a b c).2 = 0 ∧ distV (sumV 1 x y z p q r).1.1 (sumV 1 x y z p q r).1.2.1 (sumV 1 x y z p q r).1.2.2 (sumV 1 a b c p q r).1.1 (sumV 1 a b c p q r).1.2.1 (sumV 1 a b c p q r).1.2.2 = distV x y z a b c := by
  obtain ⟨a1, a2, a3, a4, _⟩ := sum_back h1
  obtain ⟨b1, b2, b3, b4, _⟩ := sum_back h2
  rw [a4, b4]
  simp only
  unfold distV
  rw [a1, b1, a3, b3]
  simp only [Bool.and_self, if_true, true_and]
  rw [show x + 1 * p + -1 * (a + 1 * p) = x + -1 * a by omega, show y + 1 * q + -1 * (b + 1 * q) = y + -1 * b by omega, show z + 1 * r + -1 * (c + 1 * r) = z + -1 * c by omega]
/-- the law's sums of three products are 0, overflow and all -/
theorem orth_w (x y z a b c : Int) (h : (crossV x y z a b c).2 = 0) :
    wrap64 (wrap64 (wrap64 (x * (crossV x y z a b c).1.1) + wrap64 (y * (crossV x y z a b c).1.2.1)) + wrap64 (z * (crossV x y z a b c).1.2.2)) = 0 ∧
    wrap64 (wrap64 (wrap64 (a * (crossV x y z a b c).1.1) + wrap64 (b * (crossV x y z a b c).1.2.1)) + wrap64 (c * (crossV x y z a b c).1.2.2)) = 0 := by
  have key : ∀ p q r : Int, p + q + r = 0 → wrap64 (wrap64 (wrap64 p + wrap64 q) + wrap64 r) = 0 := by
    intro p q r hh
    unfold wrap64
    omega
  unfold crossV at h ⊢
  split
  · exact ⟨key _ _ _ (orth x y z a b c).1, key _ _ _ (orth x y z a b c).2⟩
  · rename_i hn
    rw [if_neg hn] at h
    exact absurd h (by decide)
theorem sum_err (x y z a b c : Int) : (sumV 1 x y z a b c).2 = 0 ∨ (sumV 1 x y z a b c).2 = 6 := by
  unfold sumV bndV
  (repeat' split) <;> simp
theorem cross_err (x y z a b c : Int) : ((crossV x y z a b c).2 = 0 ∧ (crossV x y z a b c).1.1.natAbs ≤ 2000000000000 ∧ (crossV x y z a b c).1.2.1.natAbs ≤ 2000000000000 ∧ (crossV x y z a b c).1.2.2.natAbs ≤ 2000000000000) ∨ crossV x y z a b c = ((0, 0, 0), 6) := by
  unfold crossV
  split
  · rename_i h
    rw [Bool.and_eq_true] at h
    obtain ⟨b1, b2, b3⟩ := inV_abs h.1
    obtain ⟨b4, b5, b6⟩ := inV_abs h.2
    have p1 := mul_bd (B := 1000000) b2 b6
    have p2 := mul_bd (B := 1000000) b3 b5
    have p3 := mul_bd (B := 1000000) b3 b4
    have p4 := mul_bd (B := 1000000) b1 b6
    have p5 := mul_bd (B := 1000000) b1 b5
    have p6 := mul_bd (B := 1000000) b2 b4
    refine .inl ⟨rfl, ?_, ?_, ?_⟩ <;> simp only <;> omega
  · exact .inr rfl
theorem neV (x y z a b c : Int) (w : World) : Sem.run Try.prog (binOp .neq 23 (.agg #[.int .i64 x, .int .i64 y, .int .i64 z]) (.agg #[.int .i64 a, .int .i64 b, .int .i64 c])) w = .ok (.bool (!(x == a && (y == b && z == c)))) w := by
  have u3 := Try.underlying3
  have a3 := Try.isAgg3
  have z3 := Try.sizeOf3
  have hS : Try.prog.underlying 23 = some (.struct (Try.prog.fieldsOf 23)) := by kernel_rfl
  have hp : Try.prog.stoodInHeld 23 = false := by kernel_rfl
  rw [run_neq_struct, show (10000 : Nat) = 9999 + 1 from rfl, run_equalIn_agg w 9999 23 _ _ hS hp]
  simp only [Program.fieldsOf, Try.underlying23]
  go_simp
  by_cases h1 : x = a <;> by_cases h2 : y = b <;> by_cases h3 : z = c <;> simp [h1, h2, h3]
end Go.Proofs.Ythlidkmalfjmbaa
