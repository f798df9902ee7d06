/- graph: opOf, 1, 2, 3, 4. -/
import Derived.Test.YtliijchcpooplaaGreatMG5
namespace Go.Proofs.YtliijchcpooplaaGreat
open Go.ChangeShapes Go.WideShapes Go.ChangeAt Go.RowKit
set_option maxRecDepth 20000
set_option linter.unusedVariables false

set_option maxHeartbeats 2000000 in
theorem opOf_1 (w : World) : Calls Tryz.prog 52 #[.int .i64 1] w (Made1 ⟨1, 1, 3, 1, 2, 0, 1, 1, 8, false, false⟩ 92 95 (.func (.func 69) #[] #[]) (.func (.func 71) #[] #[]) w) := by
  go_enter Tryz.func52, Tryz.ntmps52
  go_wp2_with (first | (go_at_call 76; with_reducible refine (always_any _ _).mono ?_; rintro e w1 ⟨rfl, rfl⟩) | (go_at_call 68; with_reducible refine (slid_any _ _).mono ?_; rintro e w1 ⟨rfl, rfl⟩) | (go_at_call 70; with_reducible refine (ofChannels_any _ _).mono ?_; rintro e w1 ⟨rfl, rfl⟩))
  go_region_held3 (fun w' => w'.cell? ⟨w.heap.size + 1 + 1, 0, none⟩ = some (.int .i64 0) ∧ w'.cell? ⟨w.heap.size + 1 + 1, 1, none⟩ = some (.int .i64 1) ∧ w'.cell? ⟨w.heap.size + 1 + 1 + 1, 0, none⟩ = some (.int .i64 1) ∧ w'.cell? ⟨w.heap.size + 1 + 1 + 1, 1, none⟩ = some (.int .i64 8)) (((repeat' with_reducible apply And.intro) <;> go_cell)) (first | (go_at_call 76; with_reducible refine (always_any _ _).mono ?_; rintro e w1 ⟨rfl, rfl⟩) | (go_at_call 68; with_reducible refine (slid_any _ _).mono ?_; rintro e w1 ⟨rfl, rfl⟩) | (go_at_call 70; with_reducible refine (ofChannels_any _ _).mono ?_; rintro e w1 ⟨rfl, rfl⟩))
  all_goals
    go_wp2_with fail
    exact bodyPost_ret (by simp [results, Tryz.results52, go_sem]; rfl) rfl ⟨_, _, rfl, by go_cell, by simp, by go_cell, by simp, by go_grown⟩

set_option maxHeartbeats 2000000 in
theorem opOf_2 (w : World) : Calls Tryz.prog 52 #[.int .i64 2] w (Made1 ⟨1, 1, 3, 1, 2, 0, 1, 0, 0, false, false⟩ 92 95 (.func (.func 72) #[] #[]) (.func (.func 73) #[] #[]) w) := by
  go_enter Tryz.func52, Tryz.ntmps52
  go_wp2_with (first | (go_at_call 76; with_reducible refine (always_any _ _).mono ?_; rintro e w1 ⟨rfl, rfl⟩) | (go_at_call 68; with_reducible refine (slid_any _ _).mono ?_; rintro e w1 ⟨rfl, rfl⟩) | (go_at_call 70; with_reducible refine (ofChannels_any _ _).mono ?_; rintro e w1 ⟨rfl, rfl⟩))
  go_region_held3 (fun w' => w'.cell? ⟨w.heap.size + 1 + 1, 0, none⟩ = some (.int .i64 0) ∧ w'.cell? ⟨w.heap.size + 1 + 1, 1, none⟩ = some (.int .i64 1) ∧ w'.cell? ⟨w.heap.size + 1 + 1 + 1, 0, none⟩ = some (.int .i64 1) ∧ w'.cell? ⟨w.heap.size + 1 + 1 + 1, 1, none⟩ = some (.int .i64 8)) (((repeat' with_reducible apply And.intro) <;> go_cell)) (first | (go_at_call 76; with_reducible refine (always_any _ _).mono ?_; rintro e w1 ⟨rfl, rfl⟩) | (go_at_call 68; with_reducible refine (slid_any _ _).mono ?_; rintro e w1 ⟨rfl, rfl⟩) | (go_at_call 70; with_reducible refine (ofChannels_any _ _).mono ?_; rintro e w1 ⟨rfl, rfl⟩))
  all_goals
    go_wp2_with fail
    exact bodyPost_ret (by simp [results, Tryz.results52, go_sem]; rfl) rfl ⟨_, _, rfl, by go_cell, by simp, by go_cell, by simp, by go_grown⟩

set_option maxHeartbeats 2000000 in
theorem opOf_3 (w : World) : Calls Tryz.prog 52 #[.int .i64 3] w (Made0 ⟨1, 0, 0, 0, 0, 0, 0, 1, 8, false, false⟩ 74 95 (.func (.func 75) #[] #[]) w) := by
  go_enter Tryz.func52, Tryz.ntmps52
  go_wp2_with (first | (go_at_call 76; with_reducible refine (always_any _ _).mono ?_; rintro e w1 ⟨rfl, rfl⟩) | (go_at_call 68; with_reducible refine (slid_any _ _).mono ?_; rintro e w1 ⟨rfl, rfl⟩) | (go_at_call 70; with_reducible refine (ofChannels_any _ _).mono ?_; rintro e w1 ⟨rfl, rfl⟩))
  go_region_held3 (fun w' => w'.cell? ⟨w.heap.size + 1 + 1, 0, none⟩ = some (.int .i64 0) ∧ w'.cell? ⟨w.heap.size + 1 + 1, 1, none⟩ = some (.int .i64 1) ∧ w'.cell? ⟨w.heap.size + 1 + 1 + 1, 0, none⟩ = some (.int .i64 1) ∧ w'.cell? ⟨w.heap.size + 1 + 1 + 1, 1, none⟩ = some (.int .i64 8)) (((repeat' with_reducible apply And.intro) <;> go_cell)) (first | (go_at_call 76; with_reducible refine (always_any _ _).mono ?_; rintro e w1 ⟨rfl, rfl⟩) | (go_at_call 68; with_reducible refine (slid_any _ _).mono ?_; rintro e w1 ⟨rfl, rfl⟩) | (go_at_call 70; with_reducible refine (ofChannels_any _ _).mono ?_; rintro e w1 ⟨rfl, rfl⟩))
  all_goals
    go_wp2_with fail
    exact bodyPost_ret (by simp [results, Tryz.results52, go_sem]; rfl) rfl ⟨_, rfl, by go_cell, by simp, by go_grown⟩

set_option maxHeartbeats 2000000 in
theorem opOf_4 (w : World) : Calls Tryz.prog 52 #[.int .i64 4] w (Made1 ⟨1, 1, 3, 1, 2, 0, 0, 0, 0, false, true⟩ 92 96 (.func (.func 72) #[] #[]) (.int .i64 0) w) := by
  go_enter Tryz.func52, Tryz.ntmps52
  go_wp2_with (first | (go_at_call 76; with_reducible refine (always_any _ _).mono ?_; rintro e w1 ⟨rfl, rfl⟩) | (go_at_call 68; with_reducible refine (slid_any _ _).mono ?_; rintro e w1 ⟨rfl, rfl⟩) | (go_at_call 70; with_reducible refine (ofChannels_any _ _).mono ?_; rintro e w1 ⟨rfl, rfl⟩))
  exact bodyPost_ret (by simp [results, Tryz.results52, go_sem]; rfl) rfl ⟨_, _, rfl, by go_cell, by simp, by go_cell, by simp, by go_grown⟩

end Go.Proofs.YtliijchcpooplaaGreat
