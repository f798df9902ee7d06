/- graph: opOf, 5, 6, 7, 8. -/
import Derived.Test.YtliijchcpooplaaGreatMG5
namespace Go.Proofs.YtliijchcpooplaaGreat
open Go.ChangeShapes Go.WideShapes Go.ChangeAt Go.RowKit
set_option maxRecDepth 20000
set_option linter.unusedVariables false

set_option maxHeartbeats 2000000 in
theorem opOf_5 (w : World) : Calls Tryz.prog 52 #[.int .i64 5] w (Made1 ⟨1, 1, 3, 1, 2, 0, 0, 0, 0, false, true⟩ 92 96 (.func (.func 72) #[] #[]) (.int .i64 0) w) := by
  go_enter Tryz.func52, Tryz.ntmps52
  go_wp2_with (first | (go_at_call 76; with_reducible refine (always_any _ _).mono ?_; rintro e w1 ⟨rfl, rfl⟩) | (go_at_call 68; with_reducible refine (slid_any _ _).mono ?_; rintro e w1 ⟨rfl, rfl⟩) | (go_at_call 70; with_reducible refine (ofChannels_any _ _).mono ?_; rintro e w1 ⟨rfl, rfl⟩))
  exact bodyPost_ret (by simp [results, Tryz.results52, go_sem]; rfl) rfl ⟨_, _, rfl, by go_cell, by simp, by go_cell, by simp, by go_grown⟩

set_option maxHeartbeats 2000000 in
theorem opOf_6 (w : World) : Calls Tryz.prog 52 #[.int .i64 6] w (Made0 ⟨2, 0, 0, 0, 0, 0, 0, 0, 0, false, false⟩ 77 96 (.int .i64 0) w) := by
  go_enter Tryz.func52, Tryz.ntmps52
  go_wp2_with (first | (go_at_call 76; with_reducible refine (always_any _ _).mono ?_; rintro e w1 ⟨rfl, rfl⟩) | (go_at_call 68; with_reducible refine (slid_any _ _).mono ?_; rintro e w1 ⟨rfl, rfl⟩) | (go_at_call 70; with_reducible refine (ofChannels_any _ _).mono ?_; rintro e w1 ⟨rfl, rfl⟩))
  exact bodyPost_ret (by simp [results, Tryz.results52, go_sem]; rfl) rfl ⟨_, rfl, by go_cell, by simp, by go_grown⟩

set_option maxHeartbeats 2000000 in
theorem opOf_7 (w : World) : Calls Tryz.prog 52 #[.int .i64 7] w (Made0 ⟨2, 0, 0, 0, 0, 0, 0, 0, 0, false, false⟩ 77 96 (.int .i64 0) w) := by
  go_enter Tryz.func52, Tryz.ntmps52
  go_wp2_with (first | (go_at_call 76; with_reducible refine (always_any _ _).mono ?_; rintro e w1 ⟨rfl, rfl⟩) | (go_at_call 68; with_reducible refine (slid_any _ _).mono ?_; rintro e w1 ⟨rfl, rfl⟩) | (go_at_call 70; with_reducible refine (ofChannels_any _ _).mono ?_; rintro e w1 ⟨rfl, rfl⟩))
  exact bodyPost_ret (by simp [results, Tryz.results52, go_sem]; rfl) rfl ⟨_, rfl, by go_cell, by simp, by go_grown⟩

set_option maxHeartbeats 2000000 in
theorem opOf_8 (w : World) : Calls Tryz.prog 52 #[.int .i64 8] w (Made0 ⟨1, 0, 0, 0, 0, 0, 0, 0, 0, false, true⟩ 77 96 (.int .i64 0) w) := by
  go_enter Tryz.func52, Tryz.ntmps52
  go_wp2_with (first | (go_at_call 76; with_reducible refine (always_any _ _).mono ?_; rintro e w1 ⟨rfl, rfl⟩) | (go_at_call 68; with_reducible refine (slid_any _ _).mono ?_; rintro e w1 ⟨rfl, rfl⟩) | (go_at_call 70; with_reducible refine (ofChannels_any _ _).mono ?_; rintro e w1 ⟨rfl, rfl⟩))
  exact bodyPost_ret (by simp [results, Tryz.results52, go_sem]; rfl) rfl ⟨_, rfl, by go_cell, by simp, by go_grown⟩

end Go.Proofs.YtliijchcpooplaaGreat
