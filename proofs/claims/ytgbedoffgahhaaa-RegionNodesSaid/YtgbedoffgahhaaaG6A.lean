/- graph: opOf, 1, 2, 3, 4. -/
import Derived.Test.YtgbedoffgahhaaaG6
namespace Go.Proofs.Ytgbedoffgahhaaa
open Go.ChangeShapes Go.WideShapes Go.ChangeAt Go.RowKit
set_option maxRecDepth 20000
set_option linter.unusedVariables false

set_option maxHeartbeats 2000000 in
theorem opOf_1 (w : World) : Calls Try.prog 52 #[.int .i64 1] w (Made1 ⟨1, 1, 3, 1, 2, 0, 1, 1, 8, false, false⟩ 84 87 (.func (.func 68) #[] #[]) (.func (.func 70) #[] #[]) w) := by
  go_enter Try.func52, Try.ntmps52
  go_wp2_with (first | (go_at_call 75; with_reducible refine (always_any _ _).mono ?_; rintro e w1 ⟨rfl, rfl⟩) | (go_at_call 67; with_reducible refine (slid_any _ _).mono ?_; rintro e w1 ⟨rfl, rfl⟩) | (go_at_call 69; with_reducible refine (ofChannels_any _ _).mono ?_; rintro e w1 ⟨rfl, rfl⟩))
  go_region_held3 (fun w' => w'.cell? ⟨w.heap.size + 1 + 1, 0, none⟩ = some (.int .i64 0) ∧ w'.cell? ⟨w.heap.size + 1 + 1, 1, none⟩ = some (.int .i64 1) ∧ w'.cell? ⟨w.heap.size + 1 + 1 + 1, 0, none⟩ = some (.int .i64 1) ∧ w'.cell? ⟨w.heap.size + 1 + 1 + 1, 1, none⟩ = some (.int .i64 8)) (((repeat' with_reducible apply And.intro) <;> go_cell)) (first | (go_at_call 75; with_reducible refine (always_any _ _).mono ?_; rintro e w1 ⟨rfl, rfl⟩) | (go_at_call 67; with_reducible refine (slid_any _ _).mono ?_; rintro e w1 ⟨rfl, rfl⟩) | (go_at_call 69; with_reducible refine (ofChannels_any _ _).mono ?_; rintro e w1 ⟨rfl, rfl⟩))
  all_goals
    go_wp2_with fail
    exact bodyPost_ret (by simp [results, Try.results52, go_sem]; rfl) rfl ⟨_, _, rfl, by go_cell, by simp, by go_cell, by simp, by go_grown⟩

set_option maxHeartbeats 2000000 in
theorem opOf_2 (w : World) : Calls Try.prog 52 #[.int .i64 2] w (Made1 ⟨1, 1, 3, 1, 2, 0, 1, 0, 0, false, false⟩ 84 87 (.func (.func 71) #[] #[]) (.func (.func 72) #[] #[]) w) := by
  go_enter Try.func52, Try.ntmps52
  go_wp2_with (first | (go_at_call 75; with_reducible refine (always_any _ _).mono ?_; rintro e w1 ⟨rfl, rfl⟩) | (go_at_call 67; with_reducible refine (slid_any _ _).mono ?_; rintro e w1 ⟨rfl, rfl⟩) | (go_at_call 69; with_reducible refine (ofChannels_any _ _).mono ?_; rintro e w1 ⟨rfl, rfl⟩))
  go_region_held3 (fun w' => w'.cell? ⟨w.heap.size + 1 + 1, 0, none⟩ = some (.int .i64 0) ∧ w'.cell? ⟨w.heap.size + 1 + 1, 1, none⟩ = some (.int .i64 1) ∧ w'.cell? ⟨w.heap.size + 1 + 1 + 1, 0, none⟩ = some (.int .i64 1) ∧ w'.cell? ⟨w.heap.size + 1 + 1 + 1, 1, none⟩ = some (.int .i64 8)) (((repeat' with_reducible apply And.intro) <;> go_cell)) (first | (go_at_call 75; with_reducible refine (always_any _ _).mono ?_; rintro e w1 ⟨rfl, rfl⟩) | (go_at_call 67; with_reducible refine (slid_any _ _).mono ?_; rintro e w1 ⟨rfl, rfl⟩) | (go_at_call 69; with_reducible refine (ofChannels_any _ _).mono ?_; rintro e w1 ⟨rfl, rfl⟩))
  all_goals
    go_wp2_with fail
    exact bodyPost_ret (by simp [results, Try.results52, go_sem]; rfl) rfl ⟨_, _, rfl, by go_cell, by simp, by go_cell, by simp, by go_grown⟩

set_option maxHeartbeats 2000000 in
theorem opOf_3 (w : World) : Calls Try.prog 52 #[.int .i64 3] w (Made0 ⟨1, 0, 0, 0, 0, 0, 0, 1, 8, false, false⟩ 73 87 (.func (.func 74) #[] #[]) w) := by
  go_enter Try.func52, Try.ntmps52
  go_wp2_with (first | (go_at_call 75; with_reducible refine (always_any _ _).mono ?_; rintro e w1 ⟨rfl, rfl⟩) | (go_at_call 67; with_reducible refine (slid_any _ _).mono ?_; rintro e w1 ⟨rfl, rfl⟩) | (go_at_call 69; with_reducible refine (ofChannels_any _ _).mono ?_; rintro e w1 ⟨rfl, rfl⟩))
  go_region_held3 (fun w' => w'.cell? ⟨w.heap.size + 1 + 1, 0, none⟩ = some (.int .i64 0) ∧ w'.cell? ⟨w.heap.size + 1 + 1, 1, none⟩ = some (.int .i64 1) ∧ w'.cell? ⟨w.heap.size + 1 + 1 + 1, 0, none⟩ = some (.int .i64 1) ∧ w'.cell? ⟨w.heap.size + 1 + 1 + 1, 1, none⟩ = some (.int .i64 8)) (((repeat' with_reducible apply And.intro) <;> go_cell)) (first | (go_at_call 75; with_reducible refine (always_any _ _).mono ?_; rintro e w1 ⟨rfl, rfl⟩) | (go_at_call 67; with_reducible refine (slid_any _ _).mono ?_; rintro e w1 ⟨rfl, rfl⟩) | (go_at_call 69; with_reducible refine (ofChannels_any _ _).mono ?_; rintro e w1 ⟨rfl, rfl⟩))
  all_goals
    go_wp2_with fail
    exact bodyPost_ret (by simp [results, Try.results52, go_sem]; rfl) rfl ⟨_, rfl, by go_cell, by simp, by go_grown⟩

set_option maxHeartbeats 2000000 in
theorem opOf_4 (w : World) : Calls Try.prog 52 #[.int .i64 4] w (Made1 ⟨1, 1, 3, 1, 2, 0, 0, 0, 0, false, true⟩ 84 88 (.func (.func 71) #[] #[]) (.int .i64 0) w) := by
  go_enter Try.func52, Try.ntmps52
  go_wp2_with (first | (go_at_call 75; with_reducible refine (always_any _ _).mono ?_; rintro e w1 ⟨rfl, rfl⟩) | (go_at_call 67; with_reducible refine (slid_any _ _).mono ?_; rintro e w1 ⟨rfl, rfl⟩) | (go_at_call 69; with_reducible refine (ofChannels_any _ _).mono ?_; rintro e w1 ⟨rfl, rfl⟩))
  exact bodyPost_ret (by simp [results, Try.results52, go_sem]; rfl) rfl ⟨_, _, rfl, by go_cell, by simp, by go_cell, by simp, by go_grown⟩

end Go.Proofs.Ytgbedoffgahhaaa
