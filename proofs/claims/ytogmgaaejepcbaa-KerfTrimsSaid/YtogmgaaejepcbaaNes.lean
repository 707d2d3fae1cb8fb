/- Inequality of a half-space with itself. No condition. -/
import Derived.Test.YtogmgaaejepcbaaEqs
namespace Go.Proofs.Ytogmgaaejepcbaa
open Go.RowKit Go.ChangeShapes

theorem neB_run (a b c d e f p q r s t u : Int) (w : World) : Sem.run Try.prog (binOp .neq 25 (.agg #[.int .i64 a, .int .i64 b, .int .i64 c, .int .i64 d, .int .i64 e, .int .i64 f]) (.agg #[.int .i64 p, .int .i64 q, .int .i64 r, .int .i64 s, .int .i64 t, .int .i64 u])) w = .ok (.bool (!((a == p && (b == q && c == r)) && (d == s && (e == t && f == u))))) w := by
  have h := eqB a b c d e f p q r s t u w
  rw [run_eql_struct] at h
  rw [run_neq_struct]
  generalize (Op.equalIn 10000 25 (.agg #[.int .i64 a, .int .i64 b, .int .i64 c, .int .i64 d, .int .i64 e, .int .i64 f]) (.agg #[.int .i64 p, .int .i64 q, .int .i64 r, .int .i64 s, .int .i64 t, .int .i64 u])).run Try.prog w = R at h ⊢
  cases R with
  | ok b w' =>
    simp only [Result.andThen_ok, Result.ok.injEq, Value.bool.injEq] at h ⊢
    exact ⟨by rw [h.1], h.2⟩
  | halt x w' => simp [Result.andThen] at h
end Go.Proofs.Ytogmgaaejepcbaa
