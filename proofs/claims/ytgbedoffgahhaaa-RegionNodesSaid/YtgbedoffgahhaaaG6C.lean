/- graph: opOf, 9, 10, 11, 12, no. -/
import Derived.Test.YtgbedoffgahhaaaG6
namespace Go.Proofs.Ytgbedoffgahhaaa
open Go.ChangeShapes Go.WideShapes Go.ChangeAt Go.RowKit
set_option maxRecDepth 20000
set_option linter.unusedVariables false

set_option maxHeartbeats 2000000 in
theorem opOf_9 (w : World) : Calls Try.prog 52 #[.int .i64 9] w (Made0 ⟨1, 0, 0, 0, 0, 1, 1, 0, 0, false, true⟩ 77 88 (.int .i64 0) w) := by
  go_enter Try.func52, Try.ntmps52
  go_wp2_with (first | (go_at_call 75; with_reducible refine (always_any _ _).mono ?_; rintro e w1 ⟨rfl, rfl⟩) | (go_at_call 67; with_reducible refine (slid_any _ _).mono ?_; rintro e w1 ⟨rfl, rfl⟩) | (go_at_call 69; with_reducible refine (ofChannels_any _ _).mono ?_; rintro e w1 ⟨rfl, rfl⟩))
  exact bodyPost_ret (by simp [results, Try.results52, go_sem]; rfl) rfl ⟨_, rfl, by go_cell, by simp, by go_grown⟩

set_option maxHeartbeats 2000000 in
theorem opOf_10 (w : World) : Calls Try.prog 52 #[.int .i64 10] w (Made0 ⟨2, 0, 0, 0, 0, 0, 0, 0, 0, false, true⟩ 78 88 (.int .i64 0) w) := by
  go_enter Try.func52, Try.ntmps52
  go_wp2_with (first | (go_at_call 75; with_reducible refine (always_any _ _).mono ?_; rintro e w1 ⟨rfl, rfl⟩) | (go_at_call 67; with_reducible refine (slid_any _ _).mono ?_; rintro e w1 ⟨rfl, rfl⟩) | (go_at_call 69; with_reducible refine (ofChannels_any _ _).mono ?_; rintro e w1 ⟨rfl, rfl⟩))
  exact bodyPost_ret (by simp [results, Try.results52, go_sem]; rfl) rfl ⟨_, rfl, by go_cell, by simp, by go_grown⟩

set_option maxHeartbeats 2000000 in
theorem opOf_11 (w : World) : Calls Try.prog 52 #[.int .i64 11] w (Made0 ⟨1, 0, 0, 0, 0, 0, 0, 0, 0, true, true⟩ 79 88 (.int .i64 0) w) := by
  go_enter Try.func52, Try.ntmps52
  go_wp2_with (first | (go_at_call 75; with_reducible refine (always_any _ _).mono ?_; rintro e w1 ⟨rfl, rfl⟩) | (go_at_call 67; with_reducible refine (slid_any _ _).mono ?_; rintro e w1 ⟨rfl, rfl⟩) | (go_at_call 69; with_reducible refine (ofChannels_any _ _).mono ?_; rintro e w1 ⟨rfl, rfl⟩))
  exact bodyPost_ret (by simp [results, Try.results52, go_sem]; rfl) rfl ⟨_, rfl, by go_cell, by simp, by go_grown⟩

set_option maxHeartbeats 2000000 in
theorem opOf_12 (w : World) : Calls Try.prog 52 #[.int .i64 12] w (Made0 ⟨1, 0, 0, 0, 0, 0, 0, 0, 0, false, false⟩ 76 88 (.int .i64 256) w) := by
  go_enter Try.func52, Try.ntmps52
  go_wp2_with (first | (go_at_call 75; with_reducible refine (always_any _ _).mono ?_; rintro e w1 ⟨rfl, rfl⟩) | (go_at_call 67; with_reducible refine (slid_any _ _).mono ?_; rintro e w1 ⟨rfl, rfl⟩) | (go_at_call 69; with_reducible refine (ofChannels_any _ _).mono ?_; rintro e w1 ⟨rfl, rfl⟩))
  exact bodyPost_ret (by simp [results, Try.results52, go_sem]; rfl) rfl ⟨_, rfl, by go_cell, by simp, by go_grown⟩

def NoOp (w : World) (e : Ending) (w' : World) : Prop := e = .returned (.tuple #[opV ⟨0, 0, 0, 0, 0, 0, 0, 0, 0, false, false⟩ .nilFunc .nilFunc, .bool false]) ∧ Grown w w'
set_option maxHeartbeats 2000000 in
theorem opOf_no (o : Int) (w : World) (h : ¬ (1 ≤ o ∧ o ≤ 12)) : Calls Try.prog 52 #[.int .i64 o] w (NoOp w) := by
  have b1 : (o == 1) = false := by simp; omega
  have b2 : (o == 2) = false := by simp; omega
  have b3 : (o == 3) = false := by simp; omega
  have b4 : (o == 4) = false := by simp; omega
  have b5 : (o == 5) = false := by simp; omega
  have b6 : (o == 6) = false := by simp; omega
  have b7 : (o == 7) = false := by simp; omega
  have b8 : (o == 8) = false := by simp; omega
  have b9 : (o == 9) = false := by simp; omega
  have b10 : (o == 10) = false := by simp; omega
  have b11 : (o == 11) = false := by simp; omega
  have b12 : (o == 12) = false := by simp; omega
  clear h
  go_enter Try.func52, Try.ntmps52
  go_wp2_with fail
  exact bodyPost_ret (by simp [results, Try.results52, go_sem]; rfl) rfl ⟨rfl, by go_grown⟩
end Go.Proofs.Ytgbedoffgahhaaa
