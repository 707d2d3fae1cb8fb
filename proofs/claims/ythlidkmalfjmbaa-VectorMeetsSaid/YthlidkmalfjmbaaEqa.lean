/- Equality of two arrays of three int64 and of four int. No condition. -/
import Derived.Test.YthlidkmalfjmbaaNum
import Derived.ChangeKeysEq
namespace Go.Proofs.Ythlidkmalfjmbaa
open Go.RowKit Go.ChangeShapes

set_option maxHeartbeats 1000000 in
theorem eqA4 (a b c d p q r s : Int) (w : World) : Sem.run Try.prog (binOp .eql 76 (.agg #[.int .i64 a, .int .i64 b, .int .i64 c, .int .i64 d]) (.agg #[.int .i64 p, .int .i64 q, .int .i64 r, .int .i64 s])) w =
    .ok (.bool (a == p && (b == q && (c == r && d == s)))) w := by
  have u3 := Try.underlying3
  have a3 := Try.isAgg3
  have z3 := Try.sizeOf3
  have hc : Try.prog.cellsOf 3 = 1 := by kernel_rfl
  rw [run_eql_struct, show (10000 : Nat) = 9998 + 1 + 1 from rfl, run_equalIn_array w 9999 _ _ Try.underlying76 Try.type3, hc]
  simp only [show List.range 4 = [0, 1, 2, 3] from rfl, Op.eqItems]
  go_simp
  by_cases h1 : a = p <;> by_cases h2 : b = q <;> by_cases h3 : c = r <;> by_cases h4 : d = s <;> simp [h1, h2, h3, h4]
set_option maxHeartbeats 1000000 in
theorem eqA3 (a b c p q r : Int) (w : World) : Sem.run Try.prog (binOp .eql 36 (.agg #[.int .i64 a, .int .i64 b, .int .i64 c]) (.agg #[.int .i64 p, .int .i64 q, .int .i64 r])) w =
    .ok (.bool (a == p && (b == q && c == r))) w := by
  have u2 := Try.underlying2
  have a2 := Try.isAgg2
  have z2 := Try.sizeOf2
  have hc : Try.prog.cellsOf 2 = 1 := by kernel_rfl
  rw [run_eql_struct, show (10000 : Nat) = 9998 + 1 + 1 from rfl, run_equalIn_array w 9999 _ _ Try.underlying36 Try.type2, hc]
  simp only [show List.range 3 = [0, 1, 2] from rfl, Op.eqItems]
  go_simp
  by_cases h1 : a = p <;> by_cases h2 : b = q <;> by_cases h3 : c = r <;> simp [h1, h2, h3]
end Go.Proofs.Ythlidkmalfjmbaa
