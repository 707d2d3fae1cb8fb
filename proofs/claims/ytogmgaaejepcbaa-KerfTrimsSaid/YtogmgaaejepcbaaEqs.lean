/- Equality of half-spaces and of boxes. No condition. -/
import Derived.Test.YtogmgaaejepcbaaNum
import Derived.ChangeKeysEq
namespace Go.Proofs.Ytogmgaaejepcbaa
open Go.RowKit Go.ChangeShapes

set_option maxHeartbeats 1000000 in
set_option maxRecDepth 100000 in
theorem eqInV (k : Nat) (a b c p q r : Int) (w : World) : Sem.run Try.prog (Op.equalIn (k + 1 + 1) 23 (.agg #[.int .i64 a, .int .i64 b, .int .i64 c]) (.agg #[.int .i64 p, .int .i64 q, .int .i64 r])) w = .ok (a == p && (b == q && c == r)) w := by
  have u3 := Try.underlying3
  have a3 := Try.isAgg3
  have z3 := Try.sizeOf3
  have hS : Try.prog.underlying 23 = some (.struct (Try.prog.fieldsOf 23)) := by kernel_rfl
  have hp : Try.prog.stoodInHeld 23 = false := by kernel_rfl
  rw [run_equalIn_agg w (k + 1) 23 _ _ hS hp]
  simp only [Program.fieldsOf, Try.underlying23]
  go_simp
  by_cases h1 : a = p <;> by_cases h2 : b = q <;> by_cases h3 : c = r <;> simp [h1, h2, h3]
set_option maxHeartbeats 4000000 in
set_option maxRecDepth 100000 in
theorem eqB (a b c d e f p q r s t u : Int) (w : World) : Sem.run Try.prog (binOp .eql 25 (.agg #[.int .i64 a, .int .i64 b, .int .i64 c, .int .i64 d, .int .i64 e, .int .i64 f]) (.agg #[.int .i64 p, .int .i64 q, .int .i64 r, .int .i64 s, .int .i64 t, .int .i64 u])) w = .ok (.bool ((a == p && (b == q && c == r)) && (d == s && (e == t && f == u)))) w := by
  have hS : Try.prog.underlying 25 = some (.struct (Try.prog.fieldsOf 25)) := by kernel_rfl
  have hp : Try.prog.stoodInHeld 25 = false := by kernel_rfl
  have p1 : ∀ (a b c d e f : Int) (w : World), Sem.run Try.prog (part 23 #[.int .i64 a, .int .i64 b, .int .i64 c, .int .i64 d, .int .i64 e, .int .i64 f] 0) w = .ok (.agg #[.int .i64 a, .int .i64 b, .int .i64 c]) w := fun _ _ _ _ _ _ _ => by kernel_rfl
  have p2 : ∀ (a b c d e f : Int) (w : World), Sem.run Try.prog (part 23 #[.int .i64 a, .int .i64 b, .int .i64 c, .int .i64 d, .int .i64 e, .int .i64 f] 3) w = .ok (.agg #[.int .i64 d, .int .i64 e, .int .i64 f]) w := fun _ _ _ _ _ _ _ => by kernel_rfl
  rw [run_eql_struct, show (10000 : Nat) = 9997 + 1 + 1 + 1 from rfl, run_equalIn_agg w (9997 + 1 + 1) 25 _ _ hS hp]
  simp only [Program.fieldsOf, Try.underlying25]
  simp only [Op.eqFields, Sem.run_bind, p1, p2, Result.andThen_ok, eqInV, Sem.run_pure, Sem.run_ite, ne_eq, not_false_eq_true, if_true, String.reduceEq]
  cases h1 : (a == p && (b == q && c == r)) <;> cases h2 : (d == s && (e == t && f == u)) <;> simp [Result.andThen_ok]
end Go.Proofs.Ytogmgaaejepcbaa
