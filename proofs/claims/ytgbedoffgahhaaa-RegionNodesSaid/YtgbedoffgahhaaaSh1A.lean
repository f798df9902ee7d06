/- shape: May of a shape whose H or W is out of bounds. -/
import Derived.Test.YtgbedoffgahhaaaSh1
namespace Go.Proofs.Ytgbedoffgahhaaa
open Go.ChangeShapes Go.WideShapes Go.ChangeAt Go.RowKit

set_option maxHeartbeats 1000000 in
theorem may_no1 (H W C : Int) (w : World) (h : ¬ ((1 ≤ H ∧ H ≤ 16) ∧ (1 ≤ W ∧ W ≤ 16))) :
    Calls Try.prog 66 #[.agg #[.int .i64 H, .int .i64 W, .int .i64 C]] w fun e w' => e = .returned (.int .i64 10) ∧ Grown w w' := by
  go_enter Try.func66, Try.ntmps66
  go_wp2
  first | (go_region_with (first | (go_at_call 83; refine (between_any _ _ _).mono ?_; rintro e w' ⟨rfl, rfl⟩) | (go_at_call 89; with_reducible refine (inb2n 1 16 H W _ _ _ _ h (by go_cell) (by go_cell) (by go_cell) (by go_cell)).mono ?_; rintro e w' ⟨rfl, rfl⟩))) | fail
  all_goals
    go_wp2
    go_ret
    exact ⟨rfl, by go_grown⟩

end Go.Proofs.Ytgbedoffgahhaaa
