/- Whatever three sides and whatever three numbers: ShapeRefuses returns true, and changes nothing that it was handed.
   Conditions: none beyond the row's own cells. -/
import Derived.Test.YtcidpbdgikkndaaRows
import Derived.Test.YtcidpbdgikkndaaBox
import Derived.Test.YtcidpbdgikkndaaRefIndex
import Derived.WalkKit
import Derived.ProofKit
import Derived.OpenShut
import Derived.Lib.SmallJoins
import Derived.Laws.IdiomArrays
namespace Go.Proofs.Ytcidpbdgikkndaa.shapeRefuses
open Go.ChangeShapes Go.WideShapes Go.ChangeAt Go.RowKit
set_option linter.unusedVariables false

set_option maxHeartbeats 1000000 in
theorem walk1 (H W C y x c q : Int) (w : World) (h : mayS H W C) (hq : Hid (q = indexI H W C y x c)) (hi : inS H W C y x c) :
    Calls Try.prog 9 #[.agg #[.int .i64 H, .int .i64 W, .int .i64 C], .agg #[.int .i64 y, .int .i64 x, .int .i64 c]] w fun e w' => e = .returned (.bool true) ∧ Grown w w' := by
  obtain ⟨_, i1, i2, i3, i4, i5, i6⟩ := hi
  have h' := Lib.hid h
  obtain ⟨a1, a2, b1, b2, d1, d2⟩ := id h
  have q0 : 0 ≤ q := by
    rw [hq.out, indexI_yes ⟨h, i1, i2, i3, i4, i5, i6⟩]
    have := Int.mul_nonneg (Int.add_nonneg (Int.mul_nonneg i1 (show 0 ≤ W by omega)) i3) (show 0 ≤ C by omega)
    omega
  clear h
  have F : Kept w.heap.size (.int .i64 H) (.int .i64 W) (.int .i64 C) (.int .i64 y) (.int .i64 x) (.int .i64 c) w ((w.alloc (.cells #[.int .i64 H, .int .i64 W, .int .i64 C] 23)).alloc (.cells #[.int .i64 y, .int .i64 x, .int .i64 c] 24)) := ⟨by go_cell, by go_cell, by go_cell, by go_cell, by go_cell, by go_cell, by go_grown, by simp⟩
  obtain ⟨qs, hs⟩ : ∃ v, Hid (v = sizeI H W C) := ⟨_, Lib.hid rfl⟩
  obtain ⟨qr, hr⟩ : ∃ v, Hid (v = rowI H W C) := ⟨_, Lib.hid rfl⟩
  have es : H * W * C = qs := by rw [hs.out]; unfold sizeI; rw [if_pos h'.out]
  have er : W * C = qr := by rw [hr.out]; unfold rowI; rw [if_pos h'.out]
  obtain ⟨m1, m2⟩ := mul_bd a1 a2 b1 b2
  obtain ⟨m3, m4⟩ := mul_bd m1 m2 d1 d2
  obtain ⟨m5, m6⟩ := mul_bd b1 b2 d1 d2
  rw [es] at m3 m4
  rw [er] at m5 m6
  have e1 : bits BinOp.and IntKind.i64 H 31 = H := (mask_mod H 5 (by omega) (by omega) (by omega)).trans (by omega)
  have e2 : bits BinOp.and IntKind.i64 W 31 = W := (mask_mod W 5 (by omega) (by omega) (by omega)).trans (by omega)
  have e3 : bits BinOp.and IntKind.i64 C 15 = C := (mask_mod C 4 (by omega) (by omega) (by omega)).trans (by omega)
  go_enter Try.func9, Try.ntmps9
  go_wp2_with fail
  refine (shown_any _).mono ?_; rintro e w1 ⟨rfl, g1⟩
  have k1 := kept_step F g1
  clear F g1
  unfold Kept at k1
  go_wp2_with fail
  refine (index_any _ _ _ _ _ _ q _ hq).mono ?_; rintro e w2 ⟨rfl, g2⟩
  have k2 := kept_step k1 g2
  clear k1 g2
  unfold Kept at k2
  go_wp2_with fail
  refine (may_yes _ _ _ _ h'.out).mono ?_; rintro e w3 ⟨rfl, g3⟩
  have k3 := kept_step k2 g3
  clear k2 g3
  unfold Kept at k3
  go_wp2_with fail
  refine (size_any _ _ _ _ _ hs).mono ?_; rintro e w4 ⟨rfl, g4⟩
  have k4 := kept_step k3 g4
  clear k3 g4
  unfold Kept at k4
  go_wp2_with fail
  refine (row_any _ _ _ _ _ hr).mono ?_; rintro e w5 ⟨rfl, g5⟩
  have k5 := kept_step k4 g5
  clear k4 g5
  unfold Kept at k5
  go_wp2_with fail
  go_ret
  exact ⟨rfl, k5.2.2.2.2.2.2.1⟩

set_option maxHeartbeats 1000000 in
theorem walkN1 (H W C y x c : Int) (w : World) (h : mayS H W C)  (n1 : y < 0) :
    Calls Try.prog 9 #[.agg #[.int .i64 H, .int .i64 W, .int .i64 C], .agg #[.int .i64 y, .int .i64 x, .int .i64 c]] w fun e w' => e = .returned (.bool true) ∧ Grown w w' := by
  have hq : Hid (-1 = indexI H W C y x c) := Lib.hid (indexI_no (fun k => by obtain ⟨_, k1, k2, k3, k4, k5, k6⟩ := k; omega)).symm
  have h' := Lib.hid h
  obtain ⟨a1, a2, b1, b2, d1, d2⟩ := id h
  clear h
  have F : Kept w.heap.size (.int .i64 H) (.int .i64 W) (.int .i64 C) (.int .i64 y) (.int .i64 x) (.int .i64 c) w ((w.alloc (.cells #[.int .i64 H, .int .i64 W, .int .i64 C] 23)).alloc (.cells #[.int .i64 y, .int .i64 x, .int .i64 c] 24)) := ⟨by go_cell, by go_cell, by go_cell, by go_cell, by go_cell, by go_cell, by go_grown, by simp⟩
  obtain ⟨qs, hs⟩ : ∃ v, Hid (v = sizeI H W C) := ⟨_, Lib.hid rfl⟩
  obtain ⟨qr, hr⟩ : ∃ v, Hid (v = rowI H W C) := ⟨_, Lib.hid rfl⟩
  have es : H * W * C = qs := by rw [hs.out]; unfold sizeI; rw [if_pos h'.out]
  have er : W * C = qr := by rw [hr.out]; unfold rowI; rw [if_pos h'.out]
  obtain ⟨m1, m2⟩ := mul_bd a1 a2 b1 b2
  obtain ⟨m3, m4⟩ := mul_bd m1 m2 d1 d2
  obtain ⟨m5, m6⟩ := mul_bd b1 b2 d1 d2
  rw [es] at m3 m4
  rw [er] at m5 m6
  have e1 : bits BinOp.and IntKind.i64 H 31 = H := (mask_mod H 5 (by omega) (by omega) (by omega)).trans (by omega)
  have e2 : bits BinOp.and IntKind.i64 W 31 = W := (mask_mod W 5 (by omega) (by omega) (by omega)).trans (by omega)
  have e3 : bits BinOp.and IntKind.i64 C 15 = C := (mask_mod C 4 (by omega) (by omega) (by omega)).trans (by omega)
  go_enter Try.func9, Try.ntmps9
  go_wp2_with fail
  refine (shown_any _).mono ?_; rintro e w1 ⟨rfl, g1⟩
  have k1 := kept_step F g1
  clear F g1
  unfold Kept at k1
  go_wp2_with fail
  refine (index_any _ _ _ _ _ _ (-1) _ hq).mono ?_; rintro e w2 ⟨rfl, g2⟩
  have k2 := kept_step k1 g2
  clear k1 g2
  unfold Kept at k2
  go_wp2_with fail
  refine (may_yes _ _ _ _ h'.out).mono ?_; rintro e w3 ⟨rfl, g3⟩
  have k3 := kept_step k2 g3
  clear k2 g3
  unfold Kept at k3
  go_wp2_with fail
  refine (size_any _ _ _ _ _ hs).mono ?_; rintro e w4 ⟨rfl, g4⟩
  have k4 := kept_step k3 g4
  clear k3 g4
  unfold Kept at k4
  go_wp2_with fail
  refine (row_any _ _ _ _ _ hr).mono ?_; rintro e w5 ⟨rfl, g5⟩
  have k5 := kept_step k4 g5
  clear k4 g5
  unfold Kept at k5
  go_wp2_with fail
  go_ret
  exact ⟨rfl, k5.2.2.2.2.2.2.1⟩

set_option maxHeartbeats 1000000 in
theorem walkN2 (H W C y x c : Int) (w : World) (h : mayS H W C) (i1 : 0 ≤ y) (n2 : H ≤ y) :
    Calls Try.prog 9 #[.agg #[.int .i64 H, .int .i64 W, .int .i64 C], .agg #[.int .i64 y, .int .i64 x, .int .i64 c]] w fun e w' => e = .returned (.bool true) ∧ Grown w w' := by
  have hq : Hid (-1 = indexI H W C y x c) := Lib.hid (indexI_no (fun k => by obtain ⟨_, k1, k2, k3, k4, k5, k6⟩ := k; omega)).symm
  have h' := Lib.hid h
  obtain ⟨a1, a2, b1, b2, d1, d2⟩ := id h
  clear h
  have F : Kept w.heap.size (.int .i64 H) (.int .i64 W) (.int .i64 C) (.int .i64 y) (.int .i64 x) (.int .i64 c) w ((w.alloc (.cells #[.int .i64 H, .int .i64 W, .int .i64 C] 23)).alloc (.cells #[.int .i64 y, .int .i64 x, .int .i64 c] 24)) := ⟨by go_cell, by go_cell, by go_cell, by go_cell, by go_cell, by go_cell, by go_grown, by simp⟩
  obtain ⟨qs, hs⟩ : ∃ v, Hid (v = sizeI H W C) := ⟨_, Lib.hid rfl⟩
  obtain ⟨qr, hr⟩ : ∃ v, Hid (v = rowI H W C) := ⟨_, Lib.hid rfl⟩
  have es : H * W * C = qs := by rw [hs.out]; unfold sizeI; rw [if_pos h'.out]
  have er : W * C = qr := by rw [hr.out]; unfold rowI; rw [if_pos h'.out]
  obtain ⟨m1, m2⟩ := mul_bd a1 a2 b1 b2
  obtain ⟨m3, m4⟩ := mul_bd m1 m2 d1 d2
  obtain ⟨m5, m6⟩ := mul_bd b1 b2 d1 d2
  rw [es] at m3 m4
  rw [er] at m5 m6
  have e1 : bits BinOp.and IntKind.i64 H 31 = H := (mask_mod H 5 (by omega) (by omega) (by omega)).trans (by omega)
  have e2 : bits BinOp.and IntKind.i64 W 31 = W := (mask_mod W 5 (by omega) (by omega) (by omega)).trans (by omega)
  have e3 : bits BinOp.and IntKind.i64 C 15 = C := (mask_mod C 4 (by omega) (by omega) (by omega)).trans (by omega)
  go_enter Try.func9, Try.ntmps9
  go_wp2_with fail
  refine (shown_any _).mono ?_; rintro e w1 ⟨rfl, g1⟩
  have k1 := kept_step F g1
  clear F g1
  unfold Kept at k1
  go_wp2_with fail
  refine (index_any _ _ _ _ _ _ (-1) _ hq).mono ?_; rintro e w2 ⟨rfl, g2⟩
  have k2 := kept_step k1 g2
  clear k1 g2
  unfold Kept at k2
  go_wp2_with fail
  refine (may_yes _ _ _ _ h'.out).mono ?_; rintro e w3 ⟨rfl, g3⟩
  have k3 := kept_step k2 g3
  clear k2 g3
  unfold Kept at k3
  go_wp2_with fail
  refine (size_any _ _ _ _ _ hs).mono ?_; rintro e w4 ⟨rfl, g4⟩
  have k4 := kept_step k3 g4
  clear k3 g4
  unfold Kept at k4
  go_wp2_with fail
  refine (row_any _ _ _ _ _ hr).mono ?_; rintro e w5 ⟨rfl, g5⟩
  have k5 := kept_step k4 g5
  clear k4 g5
  unfold Kept at k5
  go_wp2_with fail
  go_ret
  exact ⟨rfl, k5.2.2.2.2.2.2.1⟩

set_option maxHeartbeats 1000000 in
theorem walkN3 (H W C y x c : Int) (w : World) (h : mayS H W C) (i1 : 0 ≤ y) (i2 : y < H) (n3 : x < 0) :
    Calls Try.prog 9 #[.agg #[.int .i64 H, .int .i64 W, .int .i64 C], .agg #[.int .i64 y, .int .i64 x, .int .i64 c]] w fun e w' => e = .returned (.bool true) ∧ Grown w w' := by
  have hq : Hid (-1 = indexI H W C y x c) := Lib.hid (indexI_no (fun k => by obtain ⟨_, k1, k2, k3, k4, k5, k6⟩ := k; omega)).symm
  have h' := Lib.hid h
  obtain ⟨a1, a2, b1, b2, d1, d2⟩ := id h
  clear h
  have F : Kept w.heap.size (.int .i64 H) (.int .i64 W) (.int .i64 C) (.int .i64 y) (.int .i64 x) (.int .i64 c) w ((w.alloc (.cells #[.int .i64 H, .int .i64 W, .int .i64 C] 23)).alloc (.cells #[.int .i64 y, .int .i64 x, .int .i64 c] 24)) := ⟨by go_cell, by go_cell, by go_cell, by go_cell, by go_cell, by go_cell, by go_grown, by simp⟩
  obtain ⟨qs, hs⟩ : ∃ v, Hid (v = sizeI H W C) := ⟨_, Lib.hid rfl⟩
  obtain ⟨qr, hr⟩ : ∃ v, Hid (v = rowI H W C) := ⟨_, Lib.hid rfl⟩
  have es : H * W * C = qs := by rw [hs.out]; unfold sizeI; rw [if_pos h'.out]
  have er : W * C = qr := by rw [hr.out]; unfold rowI; rw [if_pos h'.out]
  obtain ⟨m1, m2⟩ := mul_bd a1 a2 b1 b2
  obtain ⟨m3, m4⟩ := mul_bd m1 m2 d1 d2
  obtain ⟨m5, m6⟩ := mul_bd b1 b2 d1 d2
  rw [es] at m3 m4
  rw [er] at m5 m6
  have e1 : bits BinOp.and IntKind.i64 H 31 = H := (mask_mod H 5 (by omega) (by omega) (by omega)).trans (by omega)
  have e2 : bits BinOp.and IntKind.i64 W 31 = W := (mask_mod W 5 (by omega) (by omega) (by omega)).trans (by omega)
  have e3 : bits BinOp.and IntKind.i64 C 15 = C := (mask_mod C 4 (by omega) (by omega) (by omega)).trans (by omega)
  go_enter Try.func9, Try.ntmps9
  go_wp2_with fail
  refine (shown_any _).mono ?_; rintro e w1 ⟨rfl, g1⟩
  have k1 := kept_step F g1
  clear F g1
  unfold Kept at k1
  go_wp2_with fail
  refine (index_any _ _ _ _ _ _ (-1) _ hq).mono ?_; rintro e w2 ⟨rfl, g2⟩
  have k2 := kept_step k1 g2
  clear k1 g2
  unfold Kept at k2
  go_wp2_with fail
  refine (may_yes _ _ _ _ h'.out).mono ?_; rintro e w3 ⟨rfl, g3⟩
  have k3 := kept_step k2 g3
  clear k2 g3
  unfold Kept at k3
  go_wp2_with fail
  refine (size_any _ _ _ _ _ hs).mono ?_; rintro e w4 ⟨rfl, g4⟩
  have k4 := kept_step k3 g4
  clear k3 g4
  unfold Kept at k4
  go_wp2_with fail
  refine (row_any _ _ _ _ _ hr).mono ?_; rintro e w5 ⟨rfl, g5⟩
  have k5 := kept_step k4 g5
  clear k4 g5
  unfold Kept at k5
  go_wp2_with fail
  go_ret
  exact ⟨rfl, k5.2.2.2.2.2.2.1⟩

set_option maxHeartbeats 1000000 in
theorem walkN4 (H W C y x c : Int) (w : World) (h : mayS H W C) (i1 : 0 ≤ y) (i2 : y < H) (i3 : 0 ≤ x) (n4 : W ≤ x) :
    Calls Try.prog 9 #[.agg #[.int .i64 H, .int .i64 W, .int .i64 C], .agg #[.int .i64 y, .int .i64 x, .int .i64 c]] w fun e w' => e = .returned (.bool true) ∧ Grown w w' := by
  have hq : Hid (-1 = indexI H W C y x c) := Lib.hid (indexI_no (fun k => by obtain ⟨_, k1, k2, k3, k4, k5, k6⟩ := k; omega)).symm
  have h' := Lib.hid h
  obtain ⟨a1, a2, b1, b2, d1, d2⟩ := id h
  clear h
  have F : Kept w.heap.size (.int .i64 H) (.int .i64 W) (.int .i64 C) (.int .i64 y) (.int .i64 x) (.int .i64 c) w ((w.alloc (.cells #[.int .i64 H, .int .i64 W, .int .i64 C] 23)).alloc (.cells #[.int .i64 y, .int .i64 x, .int .i64 c] 24)) := ⟨by go_cell, by go_cell, by go_cell, by go_cell, by go_cell, by go_cell, by go_grown, by simp⟩
  obtain ⟨qs, hs⟩ : ∃ v, Hid (v = sizeI H W C) := ⟨_, Lib.hid rfl⟩
  obtain ⟨qr, hr⟩ : ∃ v, Hid (v = rowI H W C) := ⟨_, Lib.hid rfl⟩
  have es : H * W * C = qs := by rw [hs.out]; unfold sizeI; rw [if_pos h'.out]
  have er : W * C = qr := by rw [hr.out]; unfold rowI; rw [if_pos h'.out]
  obtain ⟨m1, m2⟩ := mul_bd a1 a2 b1 b2
  obtain ⟨m3, m4⟩ := mul_bd m1 m2 d1 d2
  obtain ⟨m5, m6⟩ := mul_bd b1 b2 d1 d2
  rw [es] at m3 m4
  rw [er] at m5 m6
  have e1 : bits BinOp.and IntKind.i64 H 31 = H := (mask_mod H 5 (by omega) (by omega) (by omega)).trans (by omega)
  have e2 : bits BinOp.and IntKind.i64 W 31 = W := (mask_mod W 5 (by omega) (by omega) (by omega)).trans (by omega)
  have e3 : bits BinOp.and IntKind.i64 C 15 = C := (mask_mod C 4 (by omega) (by omega) (by omega)).trans (by omega)
  go_enter Try.func9, Try.ntmps9
  go_wp2_with fail
  refine (shown_any _).mono ?_; rintro e w1 ⟨rfl, g1⟩
  have k1 := kept_step F g1
  clear F g1
  unfold Kept at k1
  go_wp2_with fail
  refine (index_any _ _ _ _ _ _ (-1) _ hq).mono ?_; rintro e w2 ⟨rfl, g2⟩
  have k2 := kept_step k1 g2
  clear k1 g2
  unfold Kept at k2
  go_wp2_with fail
  refine (may_yes _ _ _ _ h'.out).mono ?_; rintro e w3 ⟨rfl, g3⟩
  have k3 := kept_step k2 g3
  clear k2 g3
  unfold Kept at k3
  go_wp2_with fail
  refine (size_any _ _ _ _ _ hs).mono ?_; rintro e w4 ⟨rfl, g4⟩
  have k4 := kept_step k3 g4
  clear k3 g4
  unfold Kept at k4
  go_wp2_with fail
  refine (row_any _ _ _ _ _ hr).mono ?_; rintro e w5 ⟨rfl, g5⟩
  have k5 := kept_step k4 g5
  clear k4 g5
  unfold Kept at k5
  go_wp2_with fail
  go_ret
  exact ⟨rfl, k5.2.2.2.2.2.2.1⟩

set_option maxHeartbeats 1000000 in
theorem walkN5 (H W C y x c : Int) (w : World) (h : mayS H W C) (i1 : 0 ≤ y) (i2 : y < H) (i3 : 0 ≤ x) (i4 : x < W) (n5 : c < 0) :
    Calls Try.prog 9 #[.agg #[.int .i64 H, .int .i64 W, .int .i64 C], .agg #[.int .i64 y, .int .i64 x, .int .i64 c]] w fun e w' => e = .returned (.bool true) ∧ Grown w w' := by
  have hq : Hid (-1 = indexI H W C y x c) := Lib.hid (indexI_no (fun k => by obtain ⟨_, k1, k2, k3, k4, k5, k6⟩ := k; omega)).symm
  have h' := Lib.hid h
  obtain ⟨a1, a2, b1, b2, d1, d2⟩ := id h
  clear h
  have F : Kept w.heap.size (.int .i64 H) (.int .i64 W) (.int .i64 C) (.int .i64 y) (.int .i64 x) (.int .i64 c) w ((w.alloc (.cells #[.int .i64 H, .int .i64 W, .int .i64 C] 23)).alloc (.cells #[.int .i64 y, .int .i64 x, .int .i64 c] 24)) := ⟨by go_cell, by go_cell, by go_cell, by go_cell, by go_cell, by go_cell, by go_grown, by simp⟩
  obtain ⟨qs, hs⟩ : ∃ v, Hid (v = sizeI H W C) := ⟨_, Lib.hid rfl⟩
  obtain ⟨qr, hr⟩ : ∃ v, Hid (v = rowI H W C) := ⟨_, Lib.hid rfl⟩
  have es : H * W * C = qs := by rw [hs.out]; unfold sizeI; rw [if_pos h'.out]
  have er : W * C = qr := by rw [hr.out]; unfold rowI; rw [if_pos h'.out]
  obtain ⟨m1, m2⟩ := mul_bd a1 a2 b1 b2
  obtain ⟨m3, m4⟩ := mul_bd m1 m2 d1 d2
  obtain ⟨m5, m6⟩ := mul_bd b1 b2 d1 d2
  rw [es] at m3 m4
  rw [er] at m5 m6
  have e1 : bits BinOp.and IntKind.i64 H 31 = H := (mask_mod H 5 (by omega) (by omega) (by omega)).trans (by omega)
  have e2 : bits BinOp.and IntKind.i64 W 31 = W := (mask_mod W 5 (by omega) (by omega) (by omega)).trans (by omega)
  have e3 : bits BinOp.and IntKind.i64 C 15 = C := (mask_mod C 4 (by omega) (by omega) (by omega)).trans (by omega)
  go_enter Try.func9, Try.ntmps9
  go_wp2_with fail
  refine (shown_any _).mono ?_; rintro e w1 ⟨rfl, g1⟩
  have k1 := kept_step F g1
  clear F g1
  unfold Kept at k1
  go_wp2_with fail
  refine (index_any _ _ _ _ _ _ (-1) _ hq).mono ?_; rintro e w2 ⟨rfl, g2⟩
  have k2 := kept_step k1 g2
  clear k1 g2
  unfold Kept at k2
  go_wp2_with fail
  refine (may_yes _ _ _ _ h'.out).mono ?_; rintro e w3 ⟨rfl, g3⟩
  have k3 := kept_step k2 g3
  clear k2 g3
  unfold Kept at k3
  go_wp2_with fail
  refine (size_any _ _ _ _ _ hs).mono ?_; rintro e w4 ⟨rfl, g4⟩
  have k4 := kept_step k3 g4
  clear k3 g4
  unfold Kept at k4
  go_wp2_with fail
  refine (row_any _ _ _ _ _ hr).mono ?_; rintro e w5 ⟨rfl, g5⟩
  have k5 := kept_step k4 g5
  clear k4 g5
  unfold Kept at k5
  go_wp2_with fail
  go_ret
  exact ⟨rfl, k5.2.2.2.2.2.2.1⟩

set_option maxHeartbeats 1000000 in
theorem walkN6 (H W C y x c : Int) (w : World) (h : mayS H W C) (i1 : 0 ≤ y) (i2 : y < H) (i3 : 0 ≤ x) (i4 : x < W) (i5 : 0 ≤ c) (n6 : C ≤ c) :
    Calls Try.prog 9 #[.agg #[.int .i64 H, .int .i64 W, .int .i64 C], .agg #[.int .i64 y, .int .i64 x, .int .i64 c]] w fun e w' => e = .returned (.bool true) ∧ Grown w w' := by
  have hq : Hid (-1 = indexI H W C y x c) := Lib.hid (indexI_no (fun k => by obtain ⟨_, k1, k2, k3, k4, k5, k6⟩ := k; omega)).symm
  have h' := Lib.hid h
  obtain ⟨a1, a2, b1, b2, d1, d2⟩ := id h
  clear h
  have F : Kept w.heap.size (.int .i64 H) (.int .i64 W) (.int .i64 C) (.int .i64 y) (.int .i64 x) (.int .i64 c) w ((w.alloc (.cells #[.int .i64 H, .int .i64 W, .int .i64 C] 23)).alloc (.cells #[.int .i64 y, .int .i64 x, .int .i64 c] 24)) := ⟨by go_cell, by go_cell, by go_cell, by go_cell, by go_cell, by go_cell, by go_grown, by simp⟩
  obtain ⟨qs, hs⟩ : ∃ v, Hid (v = sizeI H W C) := ⟨_, Lib.hid rfl⟩
  obtain ⟨qr, hr⟩ : ∃ v, Hid (v = rowI H W C) := ⟨_, Lib.hid rfl⟩
  have es : H * W * C = qs := by rw [hs.out]; unfold sizeI; rw [if_pos h'.out]
  have er : W * C = qr := by rw [hr.out]; unfold rowI; rw [if_pos h'.out]
  obtain ⟨m1, m2⟩ := mul_bd a1 a2 b1 b2
  obtain ⟨m3, m4⟩ := mul_bd m1 m2 d1 d2
  obtain ⟨m5, m6⟩ := mul_bd b1 b2 d1 d2
  rw [es] at m3 m4
  rw [er] at m5 m6
  have e1 : bits BinOp.and IntKind.i64 H 31 = H := (mask_mod H 5 (by omega) (by omega) (by omega)).trans (by omega)
  have e2 : bits BinOp.and IntKind.i64 W 31 = W := (mask_mod W 5 (by omega) (by omega) (by omega)).trans (by omega)
  have e3 : bits BinOp.and IntKind.i64 C 15 = C := (mask_mod C 4 (by omega) (by omega) (by omega)).trans (by omega)
  have dd : decide (c < C) = false := by simp; omega
  go_enter Try.func9, Try.ntmps9
  go_wp2_with fail
  refine (shown_any _).mono ?_; rintro e w1 ⟨rfl, g1⟩
  have k1 := kept_step F g1
  clear F g1
  unfold Kept at k1
  go_wp2_with fail
  refine (index_any _ _ _ _ _ _ (-1) _ hq).mono ?_; rintro e w2 ⟨rfl, g2⟩
  have k2 := kept_step k1 g2
  clear k1 g2
  unfold Kept at k2
  go_wp2_with fail
  refine (may_yes _ _ _ _ h'.out).mono ?_; rintro e w3 ⟨rfl, g3⟩
  have k3 := kept_step k2 g3
  clear k2 g3
  unfold Kept at k3
  go_wp2_with fail
  refine (size_any _ _ _ _ _ hs).mono ?_; rintro e w4 ⟨rfl, g4⟩
  have k4 := kept_step k3 g4
  clear k3 g4
  unfold Kept at k4
  go_wp2_with fail
  refine (row_any _ _ _ _ _ hr).mono ?_; rintro e w5 ⟨rfl, g5⟩
  have k5 := kept_step k4 g5
  clear k4 g5
  unfold Kept at k5
  go_wp2_with fail
  go_ret
  exact ⟨rfl, k5.2.2.2.2.2.2.1⟩

set_option maxHeartbeats 1000000 in
theorem walkF1 (H W C y x c : Int) (w : World)  (n1 : H < 1) :
    Calls Try.prog 9 #[.agg #[.int .i64 H, .int .i64 W, .int .i64 C], .agg #[.int .i64 y, .int .i64 x, .int .i64 c]] w fun e w' => e = .returned (.bool true) ∧ Grown w w' := by
  have h' : Hid (¬ mayS H W C) := Lib.hid (fun k => by obtain ⟨k1, k2, k3, k4, k5, k6⟩ := k; omega)
  have hq : Hid (-1 = indexI H W C y x c) := Lib.hid (indexI_no (fun k => h'.out k.1)).symm
  have hs : Hid (0 = sizeI H W C) := Lib.hid (by unfold sizeI; rw [if_neg h'.out])
  have hr : Hid (0 = rowI H W C) := Lib.hid (by unfold rowI; rw [if_neg h'.out])
  have F : Kept w.heap.size (.int .i64 H) (.int .i64 W) (.int .i64 C) (.int .i64 y) (.int .i64 x) (.int .i64 c) w ((w.alloc (.cells #[.int .i64 H, .int .i64 W, .int .i64 C] 23)).alloc (.cells #[.int .i64 y, .int .i64 x, .int .i64 c] 24)) := ⟨by go_cell, by go_cell, by go_cell, by go_cell, by go_cell, by go_cell, by go_grown, by simp⟩
  go_enter Try.func9, Try.ntmps9
  go_wp2_with fail
  refine (shown_any _).mono ?_; rintro e w1 ⟨rfl, g1⟩
  have k1 := kept_step F g1
  clear F g1
  unfold Kept at k1
  go_wp2_with fail
  refine (index_any _ _ _ _ _ _ (-1) _ hq).mono ?_; rintro e w2 ⟨rfl, g2⟩
  have k2 := kept_step k1 g2
  clear k1 g2
  unfold Kept at k2
  go_wp2_with fail
  refine (may_no _ _ _ _ h'.out).mono ?_; rintro e w3 ⟨rfl, g3⟩
  have k3 := kept_step k2 g3
  clear k2 g3
  unfold Kept at k3
  go_wp2_with fail
  refine (size_any _ _ _ _ _ hs).mono ?_; rintro e w4 ⟨rfl, g4⟩
  have k4 := kept_step k3 g4
  clear k3 g4
  unfold Kept at k4
  go_wp2_with fail
  refine (row_any _ _ _ _ _ hr).mono ?_; rintro e w5 ⟨rfl, g5⟩
  have k5 := kept_step k4 g5
  clear k4 g5
  unfold Kept at k5
  go_wp2_with fail
  go_ret
  exact ⟨rfl, k5.2.2.2.2.2.2.1⟩

set_option maxHeartbeats 1000000 in
theorem walkF2 (H W C y x c : Int) (w : World) (i1 : 1 ≤ H) (n2 : 16 < H) :
    Calls Try.prog 9 #[.agg #[.int .i64 H, .int .i64 W, .int .i64 C], .agg #[.int .i64 y, .int .i64 x, .int .i64 c]] w fun e w' => e = .returned (.bool true) ∧ Grown w w' := by
  have h' : Hid (¬ mayS H W C) := Lib.hid (fun k => by obtain ⟨k1, k2, k3, k4, k5, k6⟩ := k; omega)
  have hq : Hid (-1 = indexI H W C y x c) := Lib.hid (indexI_no (fun k => h'.out k.1)).symm
  have hs : Hid (0 = sizeI H W C) := Lib.hid (by unfold sizeI; rw [if_neg h'.out])
  have hr : Hid (0 = rowI H W C) := Lib.hid (by unfold rowI; rw [if_neg h'.out])
  have F : Kept w.heap.size (.int .i64 H) (.int .i64 W) (.int .i64 C) (.int .i64 y) (.int .i64 x) (.int .i64 c) w ((w.alloc (.cells #[.int .i64 H, .int .i64 W, .int .i64 C] 23)).alloc (.cells #[.int .i64 y, .int .i64 x, .int .i64 c] 24)) := ⟨by go_cell, by go_cell, by go_cell, by go_cell, by go_cell, by go_cell, by go_grown, by simp⟩
  go_enter Try.func9, Try.ntmps9
  go_wp2_with fail
  refine (shown_any _).mono ?_; rintro e w1 ⟨rfl, g1⟩
  have k1 := kept_step F g1
  clear F g1
  unfold Kept at k1
  go_wp2_with fail
  refine (index_any _ _ _ _ _ _ (-1) _ hq).mono ?_; rintro e w2 ⟨rfl, g2⟩
  have k2 := kept_step k1 g2
  clear k1 g2
  unfold Kept at k2
  go_wp2_with fail
  refine (may_no _ _ _ _ h'.out).mono ?_; rintro e w3 ⟨rfl, g3⟩
  have k3 := kept_step k2 g3
  clear k2 g3
  unfold Kept at k3
  go_wp2_with fail
  refine (size_any _ _ _ _ _ hs).mono ?_; rintro e w4 ⟨rfl, g4⟩
  have k4 := kept_step k3 g4
  clear k3 g4
  unfold Kept at k4
  go_wp2_with fail
  refine (row_any _ _ _ _ _ hr).mono ?_; rintro e w5 ⟨rfl, g5⟩
  have k5 := kept_step k4 g5
  clear k4 g5
  unfold Kept at k5
  go_wp2_with fail
  go_ret
  exact ⟨rfl, k5.2.2.2.2.2.2.1⟩

set_option maxHeartbeats 1000000 in
theorem walkF3 (H W C y x c : Int) (w : World) (i1 : 1 ≤ H) (i2 : H ≤ 16) (n3 : W < 1) :
    Calls Try.prog 9 #[.agg #[.int .i64 H, .int .i64 W, .int .i64 C], .agg #[.int .i64 y, .int .i64 x, .int .i64 c]] w fun e w' => e = .returned (.bool true) ∧ Grown w w' := by
  have h' : Hid (¬ mayS H W C) := Lib.hid (fun k => by obtain ⟨k1, k2, k3, k4, k5, k6⟩ := k; omega)
  have hq : Hid (-1 = indexI H W C y x c) := Lib.hid (indexI_no (fun k => h'.out k.1)).symm
  have hs : Hid (0 = sizeI H W C) := Lib.hid (by unfold sizeI; rw [if_neg h'.out])
  have hr : Hid (0 = rowI H W C) := Lib.hid (by unfold rowI; rw [if_neg h'.out])
  have F : Kept w.heap.size (.int .i64 H) (.int .i64 W) (.int .i64 C) (.int .i64 y) (.int .i64 x) (.int .i64 c) w ((w.alloc (.cells #[.int .i64 H, .int .i64 W, .int .i64 C] 23)).alloc (.cells #[.int .i64 y, .int .i64 x, .int .i64 c] 24)) := ⟨by go_cell, by go_cell, by go_cell, by go_cell, by go_cell, by go_cell, by go_grown, by simp⟩
  go_enter Try.func9, Try.ntmps9
  go_wp2_with fail
  refine (shown_any _).mono ?_; rintro e w1 ⟨rfl, g1⟩
  have k1 := kept_step F g1
  clear F g1
  unfold Kept at k1
  go_wp2_with fail
  refine (index_any _ _ _ _ _ _ (-1) _ hq).mono ?_; rintro e w2 ⟨rfl, g2⟩
  have k2 := kept_step k1 g2
  clear k1 g2
  unfold Kept at k2
  go_wp2_with fail
  refine (may_no _ _ _ _ h'.out).mono ?_; rintro e w3 ⟨rfl, g3⟩
  have k3 := kept_step k2 g3
  clear k2 g3
  unfold Kept at k3
  go_wp2_with fail
  refine (size_any _ _ _ _ _ hs).mono ?_; rintro e w4 ⟨rfl, g4⟩
  have k4 := kept_step k3 g4
  clear k3 g4
  unfold Kept at k4
  go_wp2_with fail
  refine (row_any _ _ _ _ _ hr).mono ?_; rintro e w5 ⟨rfl, g5⟩
  have k5 := kept_step k4 g5
  clear k4 g5
  unfold Kept at k5
  go_wp2_with fail
  go_ret
  exact ⟨rfl, k5.2.2.2.2.2.2.1⟩

set_option maxHeartbeats 1000000 in
theorem walkF4 (H W C y x c : Int) (w : World) (i1 : 1 ≤ H) (i2 : H ≤ 16) (i3 : 1 ≤ W) (n4 : 16 < W) :
    Calls Try.prog 9 #[.agg #[.int .i64 H, .int .i64 W, .int .i64 C], .agg #[.int .i64 y, .int .i64 x, .int .i64 c]] w fun e w' => e = .returned (.bool true) ∧ Grown w w' := by
  have h' : Hid (¬ mayS H W C) := Lib.hid (fun k => by obtain ⟨k1, k2, k3, k4, k5, k6⟩ := k; omega)
  have hq : Hid (-1 = indexI H W C y x c) := Lib.hid (indexI_no (fun k => h'.out k.1)).symm
  have hs : Hid (0 = sizeI H W C) := Lib.hid (by unfold sizeI; rw [if_neg h'.out])
  have hr : Hid (0 = rowI H W C) := Lib.hid (by unfold rowI; rw [if_neg h'.out])
  have F : Kept w.heap.size (.int .i64 H) (.int .i64 W) (.int .i64 C) (.int .i64 y) (.int .i64 x) (.int .i64 c) w ((w.alloc (.cells #[.int .i64 H, .int .i64 W, .int .i64 C] 23)).alloc (.cells #[.int .i64 y, .int .i64 x, .int .i64 c] 24)) := ⟨by go_cell, by go_cell, by go_cell, by go_cell, by go_cell, by go_cell, by go_grown, by simp⟩
  go_enter Try.func9, Try.ntmps9
  go_wp2_with fail
  refine (shown_any _).mono ?_; rintro e w1 ⟨rfl, g1⟩
  have k1 := kept_step F g1
  clear F g1
  unfold Kept at k1
  go_wp2_with fail
  refine (index_any _ _ _ _ _ _ (-1) _ hq).mono ?_; rintro e w2 ⟨rfl, g2⟩
  have k2 := kept_step k1 g2
  clear k1 g2
  unfold Kept at k2
  go_wp2_with fail
  refine (may_no _ _ _ _ h'.out).mono ?_; rintro e w3 ⟨rfl, g3⟩
  have k3 := kept_step k2 g3
  clear k2 g3
  unfold Kept at k3
  go_wp2_with fail
  refine (size_any _ _ _ _ _ hs).mono ?_; rintro e w4 ⟨rfl, g4⟩
  have k4 := kept_step k3 g4
  clear k3 g4
  unfold Kept at k4
  go_wp2_with fail
  refine (row_any _ _ _ _ _ hr).mono ?_; rintro e w5 ⟨rfl, g5⟩
  have k5 := kept_step k4 g5
  clear k4 g5
  unfold Kept at k5
  go_wp2_with fail
  go_ret
  exact ⟨rfl, k5.2.2.2.2.2.2.1⟩

set_option maxHeartbeats 1000000 in
theorem walkF5 (H W C y x c : Int) (w : World) (i1 : 1 ≤ H) (i2 : H ≤ 16) (i3 : 1 ≤ W) (i4 : W ≤ 16) (n5 : C < 1) :
    Calls Try.prog 9 #[.agg #[.int .i64 H, .int .i64 W, .int .i64 C], .agg #[.int .i64 y, .int .i64 x, .int .i64 c]] w fun e w' => e = .returned (.bool true) ∧ Grown w w' := by
  have h' : Hid (¬ mayS H W C) := Lib.hid (fun k => by obtain ⟨k1, k2, k3, k4, k5, k6⟩ := k; omega)
  have hq : Hid (-1 = indexI H W C y x c) := Lib.hid (indexI_no (fun k => h'.out k.1)).symm
  have hs : Hid (0 = sizeI H W C) := Lib.hid (by unfold sizeI; rw [if_neg h'.out])
  have hr : Hid (0 = rowI H W C) := Lib.hid (by unfold rowI; rw [if_neg h'.out])
  have F : Kept w.heap.size (.int .i64 H) (.int .i64 W) (.int .i64 C) (.int .i64 y) (.int .i64 x) (.int .i64 c) w ((w.alloc (.cells #[.int .i64 H, .int .i64 W, .int .i64 C] 23)).alloc (.cells #[.int .i64 y, .int .i64 x, .int .i64 c] 24)) := ⟨by go_cell, by go_cell, by go_cell, by go_cell, by go_cell, by go_cell, by go_grown, by simp⟩
  go_enter Try.func9, Try.ntmps9
  go_wp2_with fail
  refine (shown_any _).mono ?_; rintro e w1 ⟨rfl, g1⟩
  have k1 := kept_step F g1
  clear F g1
  unfold Kept at k1
  go_wp2_with fail
  refine (index_any _ _ _ _ _ _ (-1) _ hq).mono ?_; rintro e w2 ⟨rfl, g2⟩
  have k2 := kept_step k1 g2
  clear k1 g2
  unfold Kept at k2
  go_wp2_with fail
  refine (may_no _ _ _ _ h'.out).mono ?_; rintro e w3 ⟨rfl, g3⟩
  have k3 := kept_step k2 g3
  clear k2 g3
  unfold Kept at k3
  go_wp2_with fail
  refine (size_any _ _ _ _ _ hs).mono ?_; rintro e w4 ⟨rfl, g4⟩
  have k4 := kept_step k3 g4
  clear k3 g4
  unfold Kept at k4
  go_wp2_with fail
  refine (row_any _ _ _ _ _ hr).mono ?_; rintro e w5 ⟨rfl, g5⟩
  have k5 := kept_step k4 g5
  clear k4 g5
  unfold Kept at k5
  go_wp2_with fail
  go_ret
  exact ⟨rfl, k5.2.2.2.2.2.2.1⟩

set_option maxHeartbeats 1000000 in
theorem walkF6 (H W C y x c : Int) (w : World) (i1 : 1 ≤ H) (i2 : H ≤ 16) (i3 : 1 ≤ W) (i4 : W ≤ 16) (i5 : 1 ≤ C) (n6 : 8 < C) :
    Calls Try.prog 9 #[.agg #[.int .i64 H, .int .i64 W, .int .i64 C], .agg #[.int .i64 y, .int .i64 x, .int .i64 c]] w fun e w' => e = .returned (.bool true) ∧ Grown w w' := by
  have h' : Hid (¬ mayS H W C) := Lib.hid (fun k => by obtain ⟨k1, k2, k3, k4, k5, k6⟩ := k; omega)
  have hq : Hid (-1 = indexI H W C y x c) := Lib.hid (indexI_no (fun k => h'.out k.1)).symm
  have hs : Hid (0 = sizeI H W C) := Lib.hid (by unfold sizeI; rw [if_neg h'.out])
  have hr : Hid (0 = rowI H W C) := Lib.hid (by unfold rowI; rw [if_neg h'.out])
  have F : Kept w.heap.size (.int .i64 H) (.int .i64 W) (.int .i64 C) (.int .i64 y) (.int .i64 x) (.int .i64 c) w ((w.alloc (.cells #[.int .i64 H, .int .i64 W, .int .i64 C] 23)).alloc (.cells #[.int .i64 y, .int .i64 x, .int .i64 c] 24)) := ⟨by go_cell, by go_cell, by go_cell, by go_cell, by go_cell, by go_cell, by go_grown, by simp⟩
  have dd : decide (C ≤ 8) = false := by simp; omega
  go_enter Try.func9, Try.ntmps9
  go_wp2_with fail
  refine (shown_any _).mono ?_; rintro e w1 ⟨rfl, g1⟩
  have k1 := kept_step F g1
  clear F g1
  unfold Kept at k1
  go_wp2_with fail
  refine (index_any _ _ _ _ _ _ (-1) _ hq).mono ?_; rintro e w2 ⟨rfl, g2⟩
  have k2 := kept_step k1 g2
  clear k1 g2
  unfold Kept at k2
  go_wp2_with fail
  refine (may_no _ _ _ _ h'.out).mono ?_; rintro e w3 ⟨rfl, g3⟩
  have k3 := kept_step k2 g3
  clear k2 g3
  unfold Kept at k3
  go_wp2_with fail
  refine (size_any _ _ _ _ _ hs).mono ?_; rintro e w4 ⟨rfl, g4⟩
  have k4 := kept_step k3 g4
  clear k3 g4
  unfold Kept at k4
  go_wp2_with fail
  refine (row_any _ _ _ _ _ hr).mono ?_; rintro e w5 ⟨rfl, g5⟩
  have k5 := kept_step k4 g5
  clear k4 g5
  unfold Kept at k5
  go_wp2_with fail
  go_ret
  exact ⟨rfl, k5.2.2.2.2.2.2.1⟩

theorem walk (H W C y x c : Int) (w : World) :
    Calls Try.prog 9 #[.agg #[.int .i64 H, .int .i64 W, .int .i64 C], .agg #[.int .i64 y, .int .i64 x, .int .i64 c]] w fun e w' => e = .returned (.bool true) ∧ Grown w w' := by
  by_cases n1 : H < 1
  · exact walkF1 H W C y x c w  n1
  by_cases n2 : 16 < H
  · exact walkF2 H W C y x c w (by omega) n2
  by_cases n3 : W < 1
  · exact walkF3 H W C y x c w (by omega) (by omega) n3
  by_cases n4 : 16 < W
  · exact walkF4 H W C y x c w (by omega) (by omega) (by omega) n4
  by_cases n5 : C < 1
  · exact walkF5 H W C y x c w (by omega) (by omega) (by omega) (by omega) n5
  by_cases n6 : 8 < C
  · exact walkF6 H W C y x c w (by omega) (by omega) (by omega) (by omega) (by omega) n6
  have h : mayS H W C := ⟨by omega, by omega, by omega, by omega, by omega, by omega⟩
  by_cases p1 : y < 0
  · exact walkN1 H W C y x c w h  p1
  by_cases p2 : H ≤ y
  · exact walkN2 H W C y x c w h (by omega) p2
  by_cases p3 : x < 0
  · exact walkN3 H W C y x c w h (by omega) (by omega) p3
  by_cases p4 : W ≤ x
  · exact walkN4 H W C y x c w h (by omega) (by omega) (by omega) p4
  by_cases p5 : c < 0
  · exact walkN5 H W C y x c w h (by omega) (by omega) (by omega) (by omega) p5
  by_cases p6 : C ≤ c
  · exact walkN6 H W C y x c w h (by omega) (by omega) (by omega) (by omega) (by omega) p6
  exact walk1 H W C y x c _ w h (Lib.hid rfl) ⟨h, by omega, by omega, by omega, by omega, by omega, by omega⟩

theorem own : ownKnob Try.prog.godebug = none := by kernel_rfl
theorem cells3 : Try.prog.cellsOf 3 = 1 := by kernel_rfl
theorem cells23 : Try.prog.cellsOf 23 = 3 := by kernel_rfl
theorem cells24 : Try.prog.cellsOf 24 = 3 := by kernel_rfl
theorem list3 {α : Type} (l : List α) (h : (⟨l⟩ : Array α).size = 3) : ∃ a b c, l = [a, b, c] := by
  match l, h with
  | [a, b, c], _ => exact ⟨a, b, c, rfl⟩

set_option maxHeartbeats 400000 in
set_option maxRecDepth 100000 in
theorem lifted (os : Os) (started : os.Started) (H : Type) (enc : TypeId × Value → H) :
    ReturnsInHanded {} Try.checked os 9 .any (Rows.shapeRefusesSpec.pre6 enc Try.prog Try.f9 Rows.shapeRefusesRow.domain false) (Rows.shapeRefusesSpec.post enc Try.prog Try.f9 false true false false) := by
  refine returnsInHanded_of_change (C := Try.checked) own started (by kernel_rfl) Try.func9
    (ChangeSpec.witness6 (enc := enc) (C := Try.checked) false ⟨#[], #[.agg #[.int .i64 0, .int .i64 0, .int .i64 0], .agg #[.int .i64 0, .int .i64 0, .int .i64 0]], []⟩ 8 (by kernel_rfl) (by kernel_rfl) (by kernel_rfl) (by kernel_rfl)) ?_
  intro W base args ds gs before hval0 hW hcnd _
  have hval : ∀ (j : Nat) t v, Try.f9.params[j]? = some t → args[j]? = some v → Value.okWide Try.prog W .any base t v := hval0
  have hW' := hW
  obtain ⟨p, q, hA0, hV, rfl, hfz, hnd⟩ := hW
  have hA : DataW.TrodAll enc Try.prog W 0 (fun _ => true) true Try.f9.params.toList args.toList ds p := hA0
  rw [Try.params9] at hA hval
  obtain ⟨v0, vs0, d0, ds0, p0, q0, hargs, rfl, rfl, h0, r0⟩ := trodAll_cons hA
  obtain ⟨v1, vs1, d1, ds1, p1, q1, rfl, rfl, rfl, h1, r1⟩ := trodAll_cons r0
  obtain ⟨rfl, rfl, rfl⟩ := trodAll_nil r1
  obtain rfl : args = #[v0, v1] := by cases args; simp_all
  obtain ⟨rfl, rfl⟩ := trodVars_none hV
  obtain ⟨s0, s1, s2, y0, y1, y2, m, rfl, rfl, rfl, hy0, hy1, hy2⟩ := Joins.open_agg3 Try.underlying23 (by kernel_rfl) cells23 (hval 0 23 v0 rfl rfl) h0
  obtain ⟨z0, e0, rfl, x0⟩ := DataW.trod_int Try.underlying3 hy0
  obtain ⟨z1, e1, rfl, x1⟩ := DataW.trod_int Try.underlying3 hy1
  obtain ⟨z2, e2, rfl, x2⟩ := DataW.trod_int Try.underlying3 hy2
  simp at e0 e1 e2
  subst e0 e1 e2
  obtain ⟨cs, rfl, hsz, _⟩ : ∃ cs, v1 = .agg cs ∧ cs.size = Try.prog.cellsOf 24 ∧ Row.okWide Try.prog W .any base 24 cs := by
    have := hval 1 24 v1 rfl rfl
    simpa [Value.okWide, Try.underlying24] using this
  rw [cells24] at hsz
  obtain ⟨l⟩ := cs
  obtain ⟨k0, k1, k2, rfl⟩ := list3 l hsz
  obtain ⟨fuel, hf⟩ := h1
  obtain ⟨y3, y4, y5, m1, hx, hy3, hy4, hy5⟩ := trod_array3 Try.underlying24 cells3 hf
  obtain ⟨z3, e3, rfl, x3⟩ := DataW.trod_int Try.underlying3 hy3
  obtain ⟨z4, e4, rfl, x4⟩ := DataW.trod_int Try.underlying3 hy4
  obtain ⟨z5, e5, rfl, x5⟩ := DataW.trod_int Try.underlying3 hy5
  simp at e3 e4 e5
  subst e3 e4 e5
  simp only [Prod.mk.injEq] at hx
  obtain ⟨rfl, rfl⟩ := hx
  clear hA0 hval0
  simp only [List.append_nil] at hW'
  refine (walk z0 z1 z2 z3 z4 z5 W).mono fun e W' ⟨he, hg⟩ => ?_
  subst he
  have rdS : ∀ sp : Nat → Bool, DataW.Trod enc Try.prog W' 0 sp true 23 (.agg #[.int .i64 z0, .int .i64 z1, .int .i64 z2]) (DataW.agg [.lit (.int .i64 z0), .lit (.int .i64 z1), .lit (.int .i64 z2)]) [] := fun sp =>
    Joins.shut_agg3 (y0 := (.lit (.int .i64 z0), [])) (y1 := (.lit (.int .i64 z1), [])) (y2 := (.lit (.int .i64 z2), [])) Try.underlying23 (by kernel_rfl) cells23 ⟨1, by simp [DataW.trod, Try.underlying3, x0]⟩ ⟨1, by simp [DataW.trod, Try.underlying3, x1]⟩ ⟨1, by simp [DataW.trod, Try.underlying3, x2]⟩
  have rdA : ∀ sp : Nat → Bool, DataW.Trod enc Try.prog W' 0 sp true 24 (.agg #[.int .i64 z3, .int .i64 z4, .int .i64 z5]) (DataW.agg [.lit (.int .i64 z3), .lit (.int .i64 z4), .lit (.int .i64 z5)]) [] := fun sp => ⟨2, by simp [DataW.trod, Value.cells, Try.underlying24, Try.underlying3, cells24, cells3, x3, x4, x5, show List.range 3 = [0, 1, 2] from rfl]⟩
  exact ⟨_, rfl, post_of_same (pa := []) (pv := []) hW' (fun _ _ _ => (trodAll_cons_mk (shut_bool Try.underlying4 _) trodAll_mk0)) (fun sp _ => (trodAll_cons_mk (rdS sp) (trodAll_cons_mk (rdA sp) trodAll_mk0))) (fun _ _ => rfl) rfl
    (hg.frame _) hg.2.1 (ok_one (by kernel_rfl) rfl (okWide_bool_mk Try.underlying4 _))⟩

theorem over : Rows.shapeRefusesRow.holds Try.pinned (OpenSpec.ofChange Rows.shapeRefusesSpec) :=
  OpenClaim.holds_of_wide 9 Try.f9 rfl rfl rfl rfl rfl rfl rfl ⟨rfl, rfl, rfl, rfl, rfl⟩ rfl rfl rfl rfl rfl (by kernel_rfl) Try.func9 (by kernel_rfl)
    (of_decide_eq_true (by kernel_rfl)) (by unfold Func.isWrapper; first | (rw [if_pos (by decide +kernel)]; kernel_rfl) | (rw [if_neg (by decide +kernel)]; exact ⟨rfl, rfl⟩))
    (fun os started H enc _ => lifted os started H enc)

/-- THE STATEMENT -/
theorem proved : Rows.ShapeRefusesSaid :=
  over
#print axioms proved
end Go.Proofs.Ytcidpbdgikkndaa.shapeRefuses
