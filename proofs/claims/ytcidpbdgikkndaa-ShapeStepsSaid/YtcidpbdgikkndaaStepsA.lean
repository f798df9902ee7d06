/- ShapeSteps: two of the eight walks. -/
import Derived.Test.YtcidpbdgikkndaaStepsMath
namespace Go.Proofs.Ytcidpbdgikkndaa.shapeSteps
open Go.ChangeShapes Go.WideShapes Go.ChangeAt Go.RowKit
set_option linter.unusedVariables false

set_option maxRecDepth 4000 in
set_option maxHeartbeats 4000000 in
theorem walk000 (H W C y x c : Int) (w : World) (y1 : 0 ≤ y) (y2 : y ≤ 255) (x1 : 0 ≤ x) (x2 : x ≤ 255) (z1 : 0 ≤ c) (z2 : c ≤ 255) (c1 : (y % (1 + bits BinOp.and IntKind.i64 H 15)) + 1 < (1 + bits BinOp.and IntKind.i64 H 15)) (c2 : (x % (1 + bits BinOp.and IntKind.i64 W 15)) + 1 < (1 + bits BinOp.and IntKind.i64 W 15)) (c3 : (c % (1 + bits BinOp.and IntKind.i64 C 7)) + 1 < (1 + bits BinOp.and IntKind.i64 C 7)) :
    Calls Try.prog 8 #[.agg #[.int .i64 H, .int .i64 W, .int .i64 C], .agg #[.int .u8 y, .int .u8 x, .int .u8 c]] w fun e w' => e = .returned (.bool true) ∧ Grown w w' := by
  obtain ⟨m1, m2⟩ := mask_bd H 15 (by omega) (by omega)
  obtain ⟨m3, m4⟩ := mask_bd W 15 (by omega) (by omega)
  obtain ⟨m5, m6⟩ := mask_bd C 7 (by omega) (by omega)
  have mS : Hid (mayS (1 + bits BinOp.and IntKind.i64 H 15) (1 + bits BinOp.and IntKind.i64 W 15) (1 + bits BinOp.and IntKind.i64 C 7)) := Lib.hid ⟨by omega, by omega, by omega, by omega, by omega, by omega⟩
  have u1 := Int.emod_nonneg y (show (1 + bits BinOp.and IntKind.i64 H 15) ≠ 0 by omega)
  have u2 := Int.emod_lt_of_pos y (show 0 < (1 + bits BinOp.and IntKind.i64 H 15) by omega)
  have u3 := Int.emod_nonneg x (show (1 + bits BinOp.and IntKind.i64 W 15) ≠ 0 by omega)
  have u4 := Int.emod_lt_of_pos x (show 0 < (1 + bits BinOp.and IntKind.i64 W 15) by omega)
  have u5 := Int.emod_nonneg c (show (1 + bits BinOp.and IntKind.i64 C 7) ≠ 0 by omega)
  have u6 := Int.emod_lt_of_pos c (show 0 < (1 + bits BinOp.and IntKind.i64 C 7) by omega)
  have iS : Hid (inS (1 + bits BinOp.and IntKind.i64 H 15) (1 + bits BinOp.and IntKind.i64 W 15) (1 + bits BinOp.and IntKind.i64 C 7) (y % (1 + bits BinOp.and IntKind.i64 H 15)) (x % (1 + bits BinOp.and IntKind.i64 W 15)) (c % (1 + bits BinOp.and IntKind.i64 C 7))) := Lib.hid ⟨mS.out, u1, u2, u3, u4, u5, u6⟩
  have lt := idx_lt iS.out
  obtain ⟨n, hn⟩ : ∃ v, Hid (v = indexI (1 + bits BinOp.and IntKind.i64 H 15) (1 + bits BinOp.and IntKind.i64 W 15) (1 + bits BinOp.and IntKind.i64 C 7) (y % (1 + bits BinOp.and IntKind.i64 H 15)) (x % (1 + bits BinOp.and IntKind.i64 W 15)) (c % (1 + bits BinOp.and IntKind.i64 C 7))) := ⟨_, Lib.hid rfl⟩
  obtain ⟨S, hS⟩ : ∃ v, Hid (v = sizeI (1 + bits BinOp.and IntKind.i64 H 15) (1 + bits BinOp.and IntKind.i64 W 15) (1 + bits BinOp.and IntKind.i64 C 7)) := ⟨_, Lib.hid rfl⟩
  obtain ⟨R, hR⟩ : ∃ v, Hid (v = rowI (1 + bits BinOp.and IntKind.i64 H 15) (1 + bits BinOp.and IntKind.i64 W 15) (1 + bits BinOp.and IntKind.i64 C 7)) := ⟨_, Lib.hid rfl⟩
  rw [← hn.out, ← hS.out, ← hR.out] at lt
  obtain ⟨l1, l2, l3, l4, l5⟩ := lt
  have A1 : Hid (n + R = indexI (1 + bits BinOp.and IntKind.i64 H 15) (1 + bits BinOp.and IntKind.i64 W 15) (1 + bits BinOp.and IntKind.i64 C 7) ((y % (1 + bits BinOp.and IntKind.i64 H 15)) + 1) (x % (1 + bits BinOp.and IntKind.i64 W 15)) (c % (1 + bits BinOp.and IntKind.i64 C 7))) := Lib.hid (by rw [idx_row iS.out c1, hn.out, hR.out])
  have A2 : Hid (n + (1 + bits BinOp.and IntKind.i64 C 7) = indexI (1 + bits BinOp.and IntKind.i64 H 15) (1 + bits BinOp.and IntKind.i64 W 15) (1 + bits BinOp.and IntKind.i64 C 7) (y % (1 + bits BinOp.and IntKind.i64 H 15)) ((x % (1 + bits BinOp.and IntKind.i64 W 15)) + 1) (c % (1 + bits BinOp.and IntKind.i64 C 7))) := Lib.hid (by rw [idx_col iS.out c2, hn.out])
  have A3 : Hid (n + 1 = indexI (1 + bits BinOp.and IntKind.i64 H 15) (1 + bits BinOp.and IntKind.i64 W 15) (1 + bits BinOp.and IntKind.i64 C 7) (y % (1 + bits BinOp.and IntKind.i64 H 15)) (x % (1 + bits BinOp.and IntKind.i64 W 15)) ((c % (1 + bits BinOp.and IntKind.i64 C 7)) + 1)) := Lib.hid (by rw [idx_chan iS.out c3, hn.out])
  have A4 : Hid (0 = indexI (1 + bits BinOp.and IntKind.i64 H 15) (1 + bits BinOp.and IntKind.i64 W 15) (1 + bits BinOp.and IntKind.i64 C 7) 0 0 0) := Lib.hid (idx_zero mS.out).symm
  have A5 : Hid (S - 1 = indexI (1 + bits BinOp.and IntKind.i64 H 15) (1 + bits BinOp.and IntKind.i64 W 15) (1 + bits BinOp.and IntKind.i64 C 7) ((1 + bits BinOp.and IntKind.i64 H 15) - 1) ((1 + bits BinOp.and IntKind.i64 W 15) - 1) ((1 + bits BinOp.and IntKind.i64 C 7) - 1)) := Lib.hid (by rw [idx_last mS.out, hS.out])
  have t1 : ((y % (1 + bits BinOp.and IntKind.i64 H 15)) + 1 == (1 + bits BinOp.and IntKind.i64 H 15)) = false := by simp; omega
  have t2 : ((x % (1 + bits BinOp.and IntKind.i64 W 15)) + 1 == (1 + bits BinOp.and IntKind.i64 W 15)) = false := by simp; omega
  have t3 : ((c % (1 + bits BinOp.and IntKind.i64 C 7)) + 1 == (1 + bits BinOp.and IntKind.i64 C 7)) = false := by simp; omega
  have F : Kept w.heap.size (.int .i64 H) (.int .i64 W) (.int .i64 C) (.int .u8 y) (.int .u8 x) (.int .u8 c) w ((w.alloc (.cells #[.int .i64 H, .int .i64 W, .int .i64 C] 23)).alloc (.cells #[.int .u8 y, .int .u8 x, .int .u8 c] 40)) := ⟨by go_cell, by go_cell, by go_cell, by go_cell, by go_cell, by go_cell, by go_grown, by simp⟩
  go_enter Try.func8, Try.ntmps8
  go_wp2_with fail
  refine (shown_any _).mono ?_; rintro e w1 ⟨rfl, g1⟩
  have k1 := kept_step F g1
  clear F g1
  have f0 : w1.frozen? ⟨w.heap.size, 0, none⟩ = false := grown_free k1.2.2.2.2.2.2.1 (Nat.le_refl _)
  have f1 : w1.frozen? ⟨w.heap.size, 1, none⟩ = false := grown_free k1.2.2.2.2.2.2.1 (Nat.le_refl _)
  have f2 : w1.frozen? ⟨w.heap.size, 2, none⟩ = false := grown_free k1.2.2.2.2.2.2.1 (Nat.le_refl _)
  have k2 := kept_set (v0 := .int .i64 (1 + bits BinOp.and IntKind.i64 H 15)) (v1 := .int .i64 (1 + bits BinOp.and IntKind.i64 W 15)) (v2 := .int .i64 (1 + bits BinOp.and IntKind.i64 C 7)) k1
  unfold Kept at k1
  go_wp2_with fail
  clear k1 f0 f1 f2
  generalize ((w1.setCell ⟨w.heap.size, 0, none⟩ (.int .i64 (1 + bits BinOp.and IntKind.i64 H 15))).setCell ⟨w.heap.size, 1, none⟩ (.int .i64 (1 + bits BinOp.and IntKind.i64 W 15))).setCell ⟨w.heap.size, 2, none⟩ (.int .i64 (1 + bits BinOp.and IntKind.i64 C 7)) = w2 at k2 ⊢
  refine (index_any _ _ _ _ _ _ _ _ hn).mono ?_; rintro e w3 ⟨rfl, g3⟩
  have k3 := kept_step k2 g3
  clear k2 g3
  unfold Kept at k3
  go_wp2_with fail
  refine (index_any _ _ _ _ _ _ _ _ A1).mono ?_; rintro e w4 ⟨rfl, g4⟩
  have k4 := kept_step k3 g4
  clear k3 g4
  unfold Kept at k4
  go_wp2_with fail
  refine (index_any _ _ _ _ _ _ _ _ A2).mono ?_; rintro e w5 ⟨rfl, g5⟩
  have k5 := kept_step k4 g5
  clear k4 g5
  unfold Kept at k5
  go_wp2_with fail
  refine (index_any _ _ _ _ _ _ _ _ A3).mono ?_; rintro e w6 ⟨rfl, g6⟩
  have k6 := kept_step k5 g6
  clear k5 g6
  unfold Kept at k6
  go_wp2_with fail
  refine (row_any _ _ _ _ _ hR).mono ?_; rintro e w7 ⟨rfl, g7⟩
  have k7 := kept_step k6 g7
  clear k6 g7
  unfold Kept at k7
  go_wp2_with fail
  have s1 : IntKind.i64.wrap ((1 + bits BinOp.and IntKind.i64 H 15) - 1) = (1 + bits BinOp.and IntKind.i64 H 15) - 1 := IntWalk.i64_in _ (by omega)
  have s2 : IntKind.i64.wrap ((1 + bits BinOp.and IntKind.i64 W 15) - 1) = (1 + bits BinOp.and IntKind.i64 W 15) - 1 := IntWalk.i64_in _ (by omega)
  have s3 : IntKind.i64.wrap ((1 + bits BinOp.and IntKind.i64 C 7) - 1) = (1 + bits BinOp.and IntKind.i64 C 7) - 1 := IntWalk.i64_in _ (by omega)
  have s4 : IntKind.i64.wrap (S - 1) = S - 1 := IntWalk.i64_in _ (by omega)
  have p1 : decide (0 ≤ n) = true := by simpa using l1
  have p2 : decide (n < S) = true := by simpa using l2
  go_region_held3 (fun w' => w'.cell? ⟨w.heap.size, 0, none⟩ = some (.int .i64 (1 + bits BinOp.and IntKind.i64 H 15)) ∧ w'.cell? ⟨w.heap.size, 1, none⟩ = some (.int .i64 (1 + bits BinOp.and IntKind.i64 W 15)) ∧ w'.cell? ⟨w.heap.size, 2, none⟩ = some (.int .i64 (1 + bits BinOp.and IntKind.i64 C 7)) ∧ w'.cell? ⟨w.heap.size + 1, 0, none⟩ = some (.int .u8 y) ∧ w'.cell? ⟨w.heap.size + 1, 1, none⟩ = some (.int .u8 x) ∧ w'.cell? ⟨w.heap.size + 1, 2, none⟩ = some (.int .u8 c) ∧ Grown w w' ∧ w.heap.size + 1 < w'.heap.size)
    (first | assumption | exact kept_step (by assumption) (by assumption) | exact kept_step (by assumption) (Grown.refl _).drew)
    (first | (go_at_call 14; refine (size_any _ _ _ S _ hS).mono ?_; rintro e w' ⟨rfl, g⟩) | (go_at_call 18; with_reducible refine (index_any _ _ _ 0 0 0 0 _ A4).mono ?_; rintro e w' ⟨rfl, g⟩) | (go_at_call 18; with_reducible refine (index_any _ _ _ _ _ _ (S - 1) _ A5).mono ?_; rintro e w' ⟨rfl, g⟩))
  all_goals
    go_wp2_with fail
    go_ret
    rename_i hk
    exact ⟨rfl, hk.2.2.2.2.2.2.1⟩

set_option maxRecDepth 4000 in
set_option maxHeartbeats 4000000 in
theorem walk001 (H W C y x c : Int) (w : World) (y1 : 0 ≤ y) (y2 : y ≤ 255) (x1 : 0 ≤ x) (x2 : x ≤ 255) (z1 : 0 ≤ c) (z2 : c ≤ 255) (c1 : (y % (1 + bits BinOp.and IntKind.i64 H 15)) + 1 < (1 + bits BinOp.and IntKind.i64 H 15)) (c2 : (x % (1 + bits BinOp.and IntKind.i64 W 15)) + 1 < (1 + bits BinOp.and IntKind.i64 W 15)) (c3 : (c % (1 + bits BinOp.and IntKind.i64 C 7)) + 1 = (1 + bits BinOp.and IntKind.i64 C 7)) :
    Calls Try.prog 8 #[.agg #[.int .i64 H, .int .i64 W, .int .i64 C], .agg #[.int .u8 y, .int .u8 x, .int .u8 c]] w fun e w' => e = .returned (.bool true) ∧ Grown w w' := by
  obtain ⟨m1, m2⟩ := mask_bd H 15 (by omega) (by omega)
  obtain ⟨m3, m4⟩ := mask_bd W 15 (by omega) (by omega)
  obtain ⟨m5, m6⟩ := mask_bd C 7 (by omega) (by omega)
  have mS : Hid (mayS (1 + bits BinOp.and IntKind.i64 H 15) (1 + bits BinOp.and IntKind.i64 W 15) (1 + bits BinOp.and IntKind.i64 C 7)) := Lib.hid ⟨by omega, by omega, by omega, by omega, by omega, by omega⟩
  have u1 := Int.emod_nonneg y (show (1 + bits BinOp.and IntKind.i64 H 15) ≠ 0 by omega)
  have u2 := Int.emod_lt_of_pos y (show 0 < (1 + bits BinOp.and IntKind.i64 H 15) by omega)
  have u3 := Int.emod_nonneg x (show (1 + bits BinOp.and IntKind.i64 W 15) ≠ 0 by omega)
  have u4 := Int.emod_lt_of_pos x (show 0 < (1 + bits BinOp.and IntKind.i64 W 15) by omega)
  have u5 := Int.emod_nonneg c (show (1 + bits BinOp.and IntKind.i64 C 7) ≠ 0 by omega)
  have u6 := Int.emod_lt_of_pos c (show 0 < (1 + bits BinOp.and IntKind.i64 C 7) by omega)
  have iS : Hid (inS (1 + bits BinOp.and IntKind.i64 H 15) (1 + bits BinOp.and IntKind.i64 W 15) (1 + bits BinOp.and IntKind.i64 C 7) (y % (1 + bits BinOp.and IntKind.i64 H 15)) (x % (1 + bits BinOp.and IntKind.i64 W 15)) (c % (1 + bits BinOp.and IntKind.i64 C 7))) := Lib.hid ⟨mS.out, u1, u2, u3, u4, u5, u6⟩
  have lt := idx_lt iS.out
  obtain ⟨n, hn⟩ : ∃ v, Hid (v = indexI (1 + bits BinOp.and IntKind.i64 H 15) (1 + bits BinOp.and IntKind.i64 W 15) (1 + bits BinOp.and IntKind.i64 C 7) (y % (1 + bits BinOp.and IntKind.i64 H 15)) (x % (1 + bits BinOp.and IntKind.i64 W 15)) (c % (1 + bits BinOp.and IntKind.i64 C 7))) := ⟨_, Lib.hid rfl⟩
  obtain ⟨S, hS⟩ : ∃ v, Hid (v = sizeI (1 + bits BinOp.and IntKind.i64 H 15) (1 + bits BinOp.and IntKind.i64 W 15) (1 + bits BinOp.and IntKind.i64 C 7)) := ⟨_, Lib.hid rfl⟩
  obtain ⟨R, hR⟩ : ∃ v, Hid (v = rowI (1 + bits BinOp.and IntKind.i64 H 15) (1 + bits BinOp.and IntKind.i64 W 15) (1 + bits BinOp.and IntKind.i64 C 7)) := ⟨_, Lib.hid rfl⟩
  rw [← hn.out, ← hS.out, ← hR.out] at lt
  obtain ⟨l1, l2, l3, l4, l5⟩ := lt
  have A1 : Hid (n + R = indexI (1 + bits BinOp.and IntKind.i64 H 15) (1 + bits BinOp.and IntKind.i64 W 15) (1 + bits BinOp.and IntKind.i64 C 7) ((y % (1 + bits BinOp.and IntKind.i64 H 15)) + 1) (x % (1 + bits BinOp.and IntKind.i64 W 15)) (c % (1 + bits BinOp.and IntKind.i64 C 7))) := Lib.hid (by rw [idx_row iS.out c1, hn.out, hR.out])
  have A2 : Hid (n + (1 + bits BinOp.and IntKind.i64 C 7) = indexI (1 + bits BinOp.and IntKind.i64 H 15) (1 + bits BinOp.and IntKind.i64 W 15) (1 + bits BinOp.and IntKind.i64 C 7) (y % (1 + bits BinOp.and IntKind.i64 H 15)) ((x % (1 + bits BinOp.and IntKind.i64 W 15)) + 1) (c % (1 + bits BinOp.and IntKind.i64 C 7))) := Lib.hid (by rw [idx_col iS.out c2, hn.out])
  have A3 : Hid (-1 = indexI (1 + bits BinOp.and IntKind.i64 H 15) (1 + bits BinOp.and IntKind.i64 W 15) (1 + bits BinOp.and IntKind.i64 C 7) (y % (1 + bits BinOp.and IntKind.i64 H 15)) (x % (1 + bits BinOp.and IntKind.i64 W 15)) ((c % (1 + bits BinOp.and IntKind.i64 C 7)) + 1)) := Lib.hid (by rw [idx_out (Or.inr (Or.inr c3))])
  have A4 : Hid (0 = indexI (1 + bits BinOp.and IntKind.i64 H 15) (1 + bits BinOp.and IntKind.i64 W 15) (1 + bits BinOp.and IntKind.i64 C 7) 0 0 0) := Lib.hid (idx_zero mS.out).symm
  have A5 : Hid (S - 1 = indexI (1 + bits BinOp.and IntKind.i64 H 15) (1 + bits BinOp.and IntKind.i64 W 15) (1 + bits BinOp.and IntKind.i64 C 7) ((1 + bits BinOp.and IntKind.i64 H 15) - 1) ((1 + bits BinOp.and IntKind.i64 W 15) - 1) ((1 + bits BinOp.and IntKind.i64 C 7) - 1)) := Lib.hid (by rw [idx_last mS.out, hS.out])
  have t1 : ((y % (1 + bits BinOp.and IntKind.i64 H 15)) + 1 == (1 + bits BinOp.and IntKind.i64 H 15)) = false := by simp; omega
  have t2 : ((x % (1 + bits BinOp.and IntKind.i64 W 15)) + 1 == (1 + bits BinOp.and IntKind.i64 W 15)) = false := by simp; omega
  have t3 : ((c % (1 + bits BinOp.and IntKind.i64 C 7)) + 1 == (1 + bits BinOp.and IntKind.i64 C 7)) = true := by simpa using c3
  have F : Kept w.heap.size (.int .i64 H) (.int .i64 W) (.int .i64 C) (.int .u8 y) (.int .u8 x) (.int .u8 c) w ((w.alloc (.cells #[.int .i64 H, .int .i64 W, .int .i64 C] 23)).alloc (.cells #[.int .u8 y, .int .u8 x, .int .u8 c] 40)) := ⟨by go_cell, by go_cell, by go_cell, by go_cell, by go_cell, by go_cell, by go_grown, by simp⟩
  clear c3
  go_enter Try.func8, Try.ntmps8
  go_wp2_with fail
  refine (shown_any _).mono ?_; rintro e w1 ⟨rfl, g1⟩
  have k1 := kept_step F g1
  clear F g1
  have f0 : w1.frozen? ⟨w.heap.size, 0, none⟩ = false := grown_free k1.2.2.2.2.2.2.1 (Nat.le_refl _)
  have f1 : w1.frozen? ⟨w.heap.size, 1, none⟩ = false := grown_free k1.2.2.2.2.2.2.1 (Nat.le_refl _)
  have f2 : w1.frozen? ⟨w.heap.size, 2, none⟩ = false := grown_free k1.2.2.2.2.2.2.1 (Nat.le_refl _)
  have k2 := kept_set (v0 := .int .i64 (1 + bits BinOp.and IntKind.i64 H 15)) (v1 := .int .i64 (1 + bits BinOp.and IntKind.i64 W 15)) (v2 := .int .i64 (1 + bits BinOp.and IntKind.i64 C 7)) k1
  unfold Kept at k1
  go_wp2_with fail
  clear k1 f0 f1 f2
  generalize ((w1.setCell ⟨w.heap.size, 0, none⟩ (.int .i64 (1 + bits BinOp.and IntKind.i64 H 15))).setCell ⟨w.heap.size, 1, none⟩ (.int .i64 (1 + bits BinOp.and IntKind.i64 W 15))).setCell ⟨w.heap.size, 2, none⟩ (.int .i64 (1 + bits BinOp.and IntKind.i64 C 7)) = w2 at k2 ⊢
  refine (index_any _ _ _ _ _ _ _ _ hn).mono ?_; rintro e w3 ⟨rfl, g3⟩
  have k3 := kept_step k2 g3
  clear k2 g3
  unfold Kept at k3
  go_wp2_with fail
  refine (index_any _ _ _ _ _ _ _ _ A1).mono ?_; rintro e w4 ⟨rfl, g4⟩
  have k4 := kept_step k3 g4
  clear k3 g4
  unfold Kept at k4
  go_wp2_with fail
  refine (index_any _ _ _ _ _ _ _ _ A2).mono ?_; rintro e w5 ⟨rfl, g5⟩
  have k5 := kept_step k4 g5
  clear k4 g5
  unfold Kept at k5
  go_wp2_with fail
  refine (index_any _ _ _ _ _ _ _ _ A3).mono ?_; rintro e w6 ⟨rfl, g6⟩
  have k6 := kept_step k5 g6
  clear k5 g6
  unfold Kept at k6
  go_wp2_with fail
  refine (row_any _ _ _ _ _ hR).mono ?_; rintro e w7 ⟨rfl, g7⟩
  have k7 := kept_step k6 g7
  clear k6 g7
  unfold Kept at k7
  go_wp2_with fail
  have s1 : IntKind.i64.wrap ((1 + bits BinOp.and IntKind.i64 H 15) - 1) = (1 + bits BinOp.and IntKind.i64 H 15) - 1 := IntWalk.i64_in _ (by omega)
  have s2 : IntKind.i64.wrap ((1 + bits BinOp.and IntKind.i64 W 15) - 1) = (1 + bits BinOp.and IntKind.i64 W 15) - 1 := IntWalk.i64_in _ (by omega)
  have s3 : IntKind.i64.wrap ((1 + bits BinOp.and IntKind.i64 C 7) - 1) = (1 + bits BinOp.and IntKind.i64 C 7) - 1 := IntWalk.i64_in _ (by omega)
  have s4 : IntKind.i64.wrap (S - 1) = S - 1 := IntWalk.i64_in _ (by omega)
  have p1 : decide (0 ≤ n) = true := by simpa using l1
  have p2 : decide (n < S) = true := by simpa using l2
  go_region_held3 (fun w' => w'.cell? ⟨w.heap.size, 0, none⟩ = some (.int .i64 (1 + bits BinOp.and IntKind.i64 H 15)) ∧ w'.cell? ⟨w.heap.size, 1, none⟩ = some (.int .i64 (1 + bits BinOp.and IntKind.i64 W 15)) ∧ w'.cell? ⟨w.heap.size, 2, none⟩ = some (.int .i64 (1 + bits BinOp.and IntKind.i64 C 7)) ∧ w'.cell? ⟨w.heap.size + 1, 0, none⟩ = some (.int .u8 y) ∧ w'.cell? ⟨w.heap.size + 1, 1, none⟩ = some (.int .u8 x) ∧ w'.cell? ⟨w.heap.size + 1, 2, none⟩ = some (.int .u8 c) ∧ Grown w w' ∧ w.heap.size + 1 < w'.heap.size)
    (first | assumption | exact kept_step (by assumption) (by assumption) | exact kept_step (by assumption) (Grown.refl _).drew)
    (first | (go_at_call 14; refine (size_any _ _ _ S _ hS).mono ?_; rintro e w' ⟨rfl, g⟩) | (go_at_call 18; with_reducible refine (index_any _ _ _ 0 0 0 0 _ A4).mono ?_; rintro e w' ⟨rfl, g⟩) | (go_at_call 18; with_reducible refine (index_any _ _ _ _ _ _ (S - 1) _ A5).mono ?_; rintro e w' ⟨rfl, g⟩))
  all_goals
    go_wp2_with fail
    go_ret
    rename_i hk
    exact ⟨rfl, hk.2.2.2.2.2.2.1⟩

end Go.Proofs.Ytcidpbdgikkndaa.shapeSteps
