/- Two rows of eight numbers compared. -/
import Derived.Test.YtpfenpfnflkfiaaE4
namespace Go.Proofs.Ytpfenpfnflkfiaa
open Go.ChangeShapes Go.WideShapes Go.ChangeAt Go.RowKit
set_option maxRecDepth 20000
set_option linter.unusedVariables false

set_option maxHeartbeats 4000000 in
theorem eq8 (a0 a1 a2 a3 a4 a5 a6 a7 b0 b1 b2 b3 b4 b5 b6 b7 : Int) (w : World) : (Op.equalIn 10000 92 (.agg #[.int .i64 a0, .int .i64 a1, .int .i64 a2, .int .i64 a3, .int .i64 a4, .int .i64 a5, .int .i64 a6, .int .i64 a7]) (.agg #[.int .i64 b0, .int .i64 b1, .int .i64 b2, .int .i64 b3, .int .i64 b4, .int .i64 b5, .int .i64 b6, .int .i64 b7])).run Try.prog w = .ok (a0 == b0 && (a1 == b1 && (a2 == b2 && (a3 == b3 && (a4 == b4 && (a5 == b5 && (a6 == b6 && a7 == b7))))))) w := by
  have ku := Try.underlying3
  have ka := Try.isAgg3
  have kz := Try.sizeOf3
  rw [show (10000 : Nat) = 9999 + 1 from rfl, Op.equalIn]
  simp only [Sem.run_bind, run_underlying Try.underlying92, Result.andThen_ok]
  simp only [Std.Legacy.Range.forIn_eq_forIn_range', Std.Legacy.Range.size, Nat.sub_zero, Nat.add_sub_cancel, Nat.div_one, List.range'_succ, List.range'_zero, List.forIn_cons, List.forIn_nil]
  cases e0 : (a0 == b0)
  · go_simp
  cases e1 : (a1 == b1)
  · go_simp
  cases e2 : (a2 == b2)
  · go_simp
  cases e3 : (a3 == b3)
  · go_simp
  cases e4 : (a4 == b4)
  · go_simp
  cases e5 : (a5 == b5)
  · go_simp
  cases e6 : (a6 == b6)
  · go_simp
  cases e7 : (a7 == b7)
  · go_simp
  · go_simp
end Go.Proofs.Ytpfenpfnflkfiaa
