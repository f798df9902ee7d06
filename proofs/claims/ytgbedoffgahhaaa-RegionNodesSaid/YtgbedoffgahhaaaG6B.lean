/- graph: opOf, 5, 6, 7, 8. -/
import Derived.Test.YtgbedoffgahhaaaG6
namespace Go.Proofs.Ytgbedoffgahhaaa
open Go.ChangeShapes Go.WideShapes Go.ChangeAt Go.RowKit
set_option maxRecDepth 20000
set_option linter.unusedVariables false

set_option maxHeartbeats 2000000 in
theorem opOf_5 (w : World) : Calls Try.prog 52 #[.int .i64 5] w (Made1 ⟨1, 1, 3, 1, 2, 0, 0, 0, 0, false, true⟩ 84 88 (.func (.func 71) #[] #[]) (.int .i64 0) w) := by
  go_enter Try.func52, Try.ntmps52
  go_wp2_with (first | (go_at_call 75; with_reducible refine (always_any _ _).mono ?_; rintro e w1 ⟨rfl, rfl⟩) | (go_at_call 67; with_reducible refine (slid_any _ _).mono ?_; rintro e w1 ⟨rfl, rfl⟩) | (go_at_call 69; with_reducible refine (ofChannels_any _ _).mono ?_; rintro e w1 ⟨rfl, rfl⟩))
  exact bodyPost_ret (by simp [results, Try.results52, go_sem]; rfl) rfl ⟨_, _, rfl, by go_cell, by simp, by go_cell, by simp, by go_grown⟩

set_option maxHeartbeats 2000000 in
theorem opOf_6 (w : World) : Calls Try.prog 52 #[.int .i64 6] w (Made0 ⟨2, 0, 0, 0, 0, 0, 0, 0, 0, false, false⟩ 76 88 (.int .i64 0) w) := by
  go_enter Try.func52, Try.ntmps52
  go_wp2_with (first | (go_at_call 75; with_reducible refine (always_any _ _).mono ?_; rintro e w1 ⟨rfl, rfl⟩) | (go_at_call 67; with_reducible refine (slid_any _ _).mono ?_; rintro e w1 ⟨rfl, rfl⟩) | (go_at_call 69; with_reducible refine (ofChannels_any _ _).mono ?_; rintro e w1 ⟨rfl, rfl⟩))
  exact bodyPost_ret (by simp [results, Try.results52, go_sem]; rfl) rfl ⟨_, rfl, by go_cell, by simp, by go_grown⟩

set_option maxHeartbeats 2000000 in
theorem opOf_7 (w : World) : Calls Try.prog 52 #[.int .i64 7] w (Made0 ⟨2, 0, 0, 0, 0, 0, 0, 0, 0, false, false⟩ 76 88 (.int .i64 0) w) := by
  go_enter Try.func52, Try.ntmps52
  go_wp2_with (first | (go_at_call 75; with_reducible refine (always_any _ _).mono ?_; rintro e w1 ⟨rfl, rfl⟩) | (go_at_call 67; with_reducible refine (slid_any _ _).mono ?_; rintro e w1 ⟨rfl, rfl⟩) | (go_at_call 69; with_reducible refine (ofChannels_any _ _).mono ?_; rintro e w1 ⟨rfl, rfl⟩))
  exact bodyPost_ret (by simp [results, Try.results52, go_sem]; rfl) rfl ⟨_, rfl, by go_cell, by simp, by go_grown⟩

set_option maxHeartbeats 2000000 in
theorem opOf_8 (w : World) : Calls Try.prog 52 #[.int .i64 8] w (Made0 ⟨1, 0, 0, 0, 0, 0, 0, 0, 0, false, true⟩ 76 88 (.int .i64 0) w) := by
  go_enter Try.func52, Try.ntmps52
  go_wp2_with (first | (go_at_call 75; with_reducible refine (always_any _ _).mono ?_; rintro e w1 ⟨rfl, rfl⟩) | (go_at_call 67; with_reducible refine (slid_any _ _).mono ?_; rintro e w1 ⟨rfl, rfl⟩) | (go_at_call 69; with_reducible refine (ofChannels_any _ _).mono ?_; rintro e w1 ⟨rfl, rfl⟩))
  exact bodyPost_ret (by simp [results, Try.results52, go_sem]; rfl) rfl ⟨_, rfl, by go_cell, by simp, by go_grown⟩

end Go.Proofs.Ytgbedoffgahhaaa
