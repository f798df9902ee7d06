/- Whatever two bytes and whatever four: ShapeReaches returns true, and changes nothing that it was handed.
   Conditions: none beyond the row's own cells. -/
import Derived.Test.YtcidpbdgikkndaaRows
import Derived.Test.YtcidpbdgikkndaaReaches
import Derived.WalkKit
import Derived.ProofKit
import Derived.OpenShut
import Derived.Laws.IdiomArrays
namespace Go.Proofs.Ytcidpbdgikkndaa.shapeReaches
open Go.ChangeShapes Go.WideShapes Go.ChangeAt Go.RowKit
set_option linter.unusedVariables false

set_option maxRecDepth 4000 in
set_option maxHeartbeats 4000000 in
theorem walkN (r m a b c d : Int) (w0 : (Lit.int .u8 r).wf = true) (w1 : (Lit.int .u8 m).wf = true) (x0 : (Lit.int .u8 a).wf = true) (x1 : (Lit.int .u8 b).wf = true) (x2 : (Lit.int .u8 c).wf = true) (x3 : (Lit.int .u8 d).wf = true) (w : World) (h : (1 + d % 16) + 2 * (bits BinOp.and IntKind.u8 c 1) < (1 + bits BinOp.and IntKind.u8 a 3)) :
    Calls Try.prog 6 #[.int .u8 r, .int .u8 m, .agg #[.int .u8 a, .int .u8 b, .int .u8 c, .int .u8 d]] w fun e w' => e = .returned (.bool true) ∧ Grown w w' := by
  obtain ⟨r1, r2⟩ := wf_u8 w0
  obtain ⟨r3, r4⟩ := wf_u8 w1
  obtain ⟨r5, r6⟩ := wf_u8 x0
  obtain ⟨r7, r8⟩ := wf_u8 x1
  obtain ⟨r9, r10⟩ := wf_u8 x2
  obtain ⟨r11, r12⟩ := wf_u8 x3
  obtain ⟨m1, m2⟩ := mask_u8 b 1 (by omega) (by omega)
  obtain ⟨m5, m6⟩ := mask_u8 a 3 (by omega) (by omega)
  obtain ⟨m3, m4⟩ := mask_u8 c 1 (by omega) (by omega)
  have hn : Hid (0 = outI (1 + d % 16) (1 + bits BinOp.and IntKind.u8 a 3) (1 + bits BinOp.and IntKind.u8 b 1) (bits BinOp.and IntKind.u8 c 1)) := Lib.hid (outI_no (fun h => by have := h.2.2.2.2.2.2.2.2; omega)).symm
  have q1 : Hid (0 = (reachI 0 1 (1 + bits BinOp.and IntKind.u8 a 3) (1 + bits BinOp.and IntKind.u8 b 1) (bits BinOp.and IntKind.u8 c 1) (1 + d % 16)).1) := Lib.hid (by rw [reachI_no (fun h => by have := h.2.2.2; rw [← hn.out] at this; omega)])
  have q2 : Hid (0 = (reachI 0 1 (1 + bits BinOp.and IntKind.u8 a 3) (1 + bits BinOp.and IntKind.u8 b 1) (bits BinOp.and IntKind.u8 c 1) (1 + d % 16)).2) := Lib.hid (by rw [reachI_no (fun h => by have := h.2.2.2; rw [← hn.out] at this; omega)])
  have F : (w.alloc (.cells #[.int .u8 a, .int .u8 b, .int .u8 c, .int .u8 d] 37)).cell? ⟨w.heap.size, 0, none⟩ = some (.int .u8 a) ∧ (w.alloc (.cells #[.int .u8 a, .int .u8 b, .int .u8 c, .int .u8 d] 37)).cell? ⟨w.heap.size, 1, none⟩ = some (.int .u8 b) ∧ (w.alloc (.cells #[.int .u8 a, .int .u8 b, .int .u8 c, .int .u8 d] 37)).cell? ⟨w.heap.size, 2, none⟩ = some (.int .u8 c) ∧ (w.alloc (.cells #[.int .u8 a, .int .u8 b, .int .u8 c, .int .u8 d] 37)).cell? ⟨w.heap.size, 3, none⟩ = some (.int .u8 d) ∧ w.heap.size < (w.alloc (.cells #[.int .u8 a, .int .u8 b, .int .u8 c, .int .u8 d] 37)).heap.size ∧ Grown w (w.alloc (.cells #[.int .u8 a, .int .u8 b, .int .u8 c, .int .u8 d] 37)) := ⟨by go_cell, by go_cell, by go_cell, by go_cell, by simp, by go_grown⟩
  go_enter Try.func6, Try.ntmps6
  go_wp2_with fail
  refine (shown_any _).mono ?_; rintro e w1 ⟨rfl, g1⟩
  obtain ⟨F0, F1, F2, F3, F4, F5⟩ := F
  have k0 := (grown_cell g1 (p := ⟨w.heap.size, 0, none⟩) F4).trans F0
  have k1 := (grown_cell g1 (p := ⟨w.heap.size, 1, none⟩) F4).trans F1
  have k2 := (grown_cell g1 (p := ⟨w.heap.size, 2, none⟩) F4).trans F2
  have k3 := (grown_cell g1 (p := ⟨w.heap.size, 3, none⟩) F4).trans F3
  have g := grown_trans F5 g1
  clear F0 F1 F2 F3 F4 F5 g1
  go_wp2_with fail
  refine (out_any _ _ _ _ _ _ hn).mono ?_; rintro e w2 ⟨rfl, g2⟩
  go_wp2_with fail
  refine (reach_any _ _ _ _ _ _ 0 0 _ (by omega) (by omega) q1 q2).mono ?_; rintro e w3 ⟨rfl, g3⟩
  go_wp2_with fail
  go_ret
  exact ⟨rfl, grown_trans g (grown_trans g2 g3)⟩

set_option maxRecDepth 4000 in
set_option maxHeartbeats 4000000 in
theorem walk1 (r m a b c d : Int) (w0 : (Lit.int .u8 r).wf = true) (w1 : (Lit.int .u8 m).wf = true) (x0 : (Lit.int .u8 a).wf = true) (x1 : (Lit.int .u8 b).wf = true) (x2 : (Lit.int .u8 c).wf = true) (x3 : (Lit.int .u8 d).wf = true) (w : World) (n F T O E L V : Int) (h : (1 + bits BinOp.and IntKind.u8 a 3) ≤ (1 + d % 16) + 2 * (bits BinOp.and IntKind.u8 c 1)) (hn : Hid (n = outI (1 + d % 16) (1 + bits BinOp.and IntKind.u8 a 3) (1 + bits BinOp.and IntKind.u8 b 1) (bits BinOp.and IntKind.u8 c 1))) (hF : Hid (F = (reachI (r % n) (1 + (m % (n - r % n))) (1 + bits BinOp.and IntKind.u8 a 3) (1 + bits BinOp.and IntKind.u8 b 1) (bits BinOp.and IntKind.u8 c 1) (1 + d % 16)).1)) (hT : Hid (T = (reachI (r % n) (1 + (m % (n - r % n))) (1 + bits BinOp.and IntKind.u8 a 3) (1 + bits BinOp.and IntKind.u8 b 1) (bits BinOp.and IntKind.u8 c 1) (1 + d % 16)).2)) (hO : Hid (O = (reachI (r % n) 1 (1 + bits BinOp.and IntKind.u8 a 3) (1 + bits BinOp.and IntKind.u8 b 1) (bits BinOp.and IntKind.u8 c 1) (1 + d % 16)).1)) (hE : Hid (E = (reachI (r % n) 1 (1 + bits BinOp.and IntKind.u8 a 3) (1 + bits BinOp.and IntKind.u8 b 1) (bits BinOp.and IntKind.u8 c 1) (1 + d % 16)).2)) (hL : Hid (L = (reachI ((r % n) + (1 + (m % (n - r % n))) - 1) 1 (1 + bits BinOp.and IntKind.u8 a 3) (1 + bits BinOp.and IntKind.u8 b 1) (bits BinOp.and IntKind.u8 c 1) (1 + d % 16)).1)) (hV : Hid (V = (reachI ((r % n) + (1 + (m % (n - r % n))) - 1) 1 (1 + bits BinOp.and IntKind.u8 a 3) (1 + bits BinOp.and IntKind.u8 b 1) (bits BinOp.and IntKind.u8 c 1) (1 + d % 16)).2)) (c1 : T = 0) :
    Calls Try.prog 6 #[.int .u8 r, .int .u8 m, .agg #[.int .u8 a, .int .u8 b, .int .u8 c, .int .u8 d]] w fun e w' => e = .returned (.bool true) ∧ Grown w w' := by
  obtain ⟨r1, r2⟩ := wf_u8 w0
  obtain ⟨r3, r4⟩ := wf_u8 w1
  obtain ⟨r5, r6⟩ := wf_u8 x0
  obtain ⟨r7, r8⟩ := wf_u8 x1
  obtain ⟨r9, r10⟩ := wf_u8 x2
  obtain ⟨r11, r12⟩ := wf_u8 x3
  obtain ⟨m1, m2⟩ := mask_u8 b 1 (by omega) (by omega)
  obtain ⟨m5, m6⟩ := mask_u8 a 3 (by omega) (by omega)
  obtain ⟨m3, m4⟩ := mask_u8 c 1 (by omega) (by omega)
  have hw : mayWin (1 + d % 16) (1 + bits BinOp.and IntKind.u8 a 3) (1 + bits BinOp.and IntKind.u8 b 1) (bits BinOp.and IntKind.u8 c 1) := ⟨by omega, by omega, by omega, by omega, by omega, by omega, by omega, by omega, h⟩
  obtain ⟨f1, f2, f3, f4, f5, f6, f7⟩ := out_fit hn (by omega) (by omega) (by omega) (by omega) (by omega) (by omega) (by omega) (by omega) h
  have u1 := Int.emod_nonneg r (show n ≠ 0 by omega)
  have u2 := Int.emod_lt_of_pos r (show 0 < n by omega)
  have u3 := Int.emod_nonneg m (show n - r % n ≠ 0 by omega)
  have u4 := Int.emod_lt_of_pos m (show 0 < n - r % n by omega)
  have fa := reaches_facts hw hn.out u1 u2 u3 u4 hF.out hT.out hO.out hE.out hL.out hV.out
  have q1 : Hid (0 = (reachI (r % n) (n - r % n + 1) (1 + bits BinOp.and IntKind.u8 a 3) (1 + bits BinOp.and IntKind.u8 b 1) (bits BinOp.and IntKind.u8 c 1) (1 + d % 16)).1) := Lib.hid (by rw [reachI_no (fun h => by have := h.2.2.2; rw [← hn.out] at this; omega)])
  have q2 : Hid (0 = (reachI (r % n) (n - r % n + 1) (1 + bits BinOp.and IntKind.u8 a 3) (1 + bits BinOp.and IntKind.u8 b 1) (bits BinOp.and IntKind.u8 c 1) (1 + d % 16)).2) := Lib.hid (by rw [reachI_no (fun h => by have := h.2.2.2; rw [← hn.out] at this; omega)])
  have e0 : (n == 0) = false := by simp; omega
  obtain ⟨t1, t2⟩ := fa.1 (Or.inl c1)
  have d1 : decide ((1 + bits BinOp.and IntKind.u8 a 3) ≤ (bits BinOp.and IntKind.u8 c 1)) = true := by simpa using t2
  subst c1
  have e1 : ((0 : Int) == 0) = true := rfl
  clear fa hw
  have F : (w.alloc (.cells #[.int .u8 a, .int .u8 b, .int .u8 c, .int .u8 d] 37)).cell? ⟨w.heap.size, 0, none⟩ = some (.int .u8 a) ∧ (w.alloc (.cells #[.int .u8 a, .int .u8 b, .int .u8 c, .int .u8 d] 37)).cell? ⟨w.heap.size, 1, none⟩ = some (.int .u8 b) ∧ (w.alloc (.cells #[.int .u8 a, .int .u8 b, .int .u8 c, .int .u8 d] 37)).cell? ⟨w.heap.size, 2, none⟩ = some (.int .u8 c) ∧ (w.alloc (.cells #[.int .u8 a, .int .u8 b, .int .u8 c, .int .u8 d] 37)).cell? ⟨w.heap.size, 3, none⟩ = some (.int .u8 d) ∧ w.heap.size < (w.alloc (.cells #[.int .u8 a, .int .u8 b, .int .u8 c, .int .u8 d] 37)).heap.size ∧ Grown w (w.alloc (.cells #[.int .u8 a, .int .u8 b, .int .u8 c, .int .u8 d] 37)) := ⟨by go_cell, by go_cell, by go_cell, by go_cell, by simp, by go_grown⟩
  go_enter Try.func6, Try.ntmps6
  go_wp2_with fail
  refine (shown_any _).mono ?_; rintro e w1 ⟨rfl, g1⟩
  obtain ⟨F0, F1, F2, F3, F4, F5⟩ := F
  have k0 := (grown_cell g1 (p := ⟨w.heap.size, 0, none⟩) F4).trans F0
  have k1 := (grown_cell g1 (p := ⟨w.heap.size, 1, none⟩) F4).trans F1
  have k2 := (grown_cell g1 (p := ⟨w.heap.size, 2, none⟩) F4).trans F2
  have k3 := (grown_cell g1 (p := ⟨w.heap.size, 3, none⟩) F4).trans F3
  have g := grown_trans F5 g1
  clear F0 F1 F2 F3 F4 F5 g1
  go_wp2_with fail
  refine (out_any _ _ _ _ _ _ hn).mono ?_; rintro e w2 ⟨rfl, g2⟩
  go_wp2_with fail
  refine (reach_any _ _ _ _ _ _ F 0 _ (by omega) (by omega) hF hT).mono ?_; rintro e w3 ⟨rfl, g3⟩
  go_wp2_with fail
  refine (reach_any _ _ _ _ _ _ O E _ (by omega) (by omega) hO hE).mono ?_; rintro e w4 ⟨rfl, g4⟩
  go_wp2_with fail
  refine (reach_any _ _ _ _ _ _ L V _ (by omega) (by omega) hL hV).mono ?_; rintro e w5 ⟨rfl, g5⟩
  go_wp2_with fail
  refine (reach_any _ _ _ _ _ _ 0 0 _ (by omega) (by omega) q1 q2).mono ?_; rintro e w6 ⟨rfl, g6⟩
  go_wp2_with fail
  go_ret
  exact ⟨rfl, grown_trans g (grown_trans g2 (grown_trans g3 (grown_trans g4 (grown_trans g5 g6))))⟩

set_option maxRecDepth 4000 in
set_option maxHeartbeats 4000000 in
theorem walk2 (r m a b c d : Int) (w0 : (Lit.int .u8 r).wf = true) (w1 : (Lit.int .u8 m).wf = true) (x0 : (Lit.int .u8 a).wf = true) (x1 : (Lit.int .u8 b).wf = true) (x2 : (Lit.int .u8 c).wf = true) (x3 : (Lit.int .u8 d).wf = true) (w : World) (n F T O E L V : Int) (h : (1 + bits BinOp.and IntKind.u8 a 3) ≤ (1 + d % 16) + 2 * (bits BinOp.and IntKind.u8 c 1)) (hn : Hid (n = outI (1 + d % 16) (1 + bits BinOp.and IntKind.u8 a 3) (1 + bits BinOp.and IntKind.u8 b 1) (bits BinOp.and IntKind.u8 c 1))) (hF : Hid (F = (reachI (r % n) (1 + (m % (n - r % n))) (1 + bits BinOp.and IntKind.u8 a 3) (1 + bits BinOp.and IntKind.u8 b 1) (bits BinOp.and IntKind.u8 c 1) (1 + d % 16)).1)) (hT : Hid (T = (reachI (r % n) (1 + (m % (n - r % n))) (1 + bits BinOp.and IntKind.u8 a 3) (1 + bits BinOp.and IntKind.u8 b 1) (bits BinOp.and IntKind.u8 c 1) (1 + d % 16)).2)) (hO : Hid (O = (reachI (r % n) 1 (1 + bits BinOp.and IntKind.u8 a 3) (1 + bits BinOp.and IntKind.u8 b 1) (bits BinOp.and IntKind.u8 c 1) (1 + d % 16)).1)) (hE : Hid (E = (reachI (r % n) 1 (1 + bits BinOp.and IntKind.u8 a 3) (1 + bits BinOp.and IntKind.u8 b 1) (bits BinOp.and IntKind.u8 c 1) (1 + d % 16)).2)) (hL : Hid (L = (reachI ((r % n) + (1 + (m % (n - r % n))) - 1) 1 (1 + bits BinOp.and IntKind.u8 a 3) (1 + bits BinOp.and IntKind.u8 b 1) (bits BinOp.and IntKind.u8 c 1) (1 + d % 16)).1)) (hV : Hid (V = (reachI ((r % n) + (1 + (m % (n - r % n))) - 1) 1 (1 + bits BinOp.and IntKind.u8 a 3) (1 + bits BinOp.and IntKind.u8 b 1) (bits BinOp.and IntKind.u8 c 1) (1 + d % 16)).2)) (c1 : T ≠ 0) (c2 : E = 0) :
    Calls Try.prog 6 #[.int .u8 r, .int .u8 m, .agg #[.int .u8 a, .int .u8 b, .int .u8 c, .int .u8 d]] w fun e w' => e = .returned (.bool true) ∧ Grown w w' := by
  obtain ⟨r1, r2⟩ := wf_u8 w0
  obtain ⟨r3, r4⟩ := wf_u8 w1
  obtain ⟨r5, r6⟩ := wf_u8 x0
  obtain ⟨r7, r8⟩ := wf_u8 x1
  obtain ⟨r9, r10⟩ := wf_u8 x2
  obtain ⟨r11, r12⟩ := wf_u8 x3
  obtain ⟨m1, m2⟩ := mask_u8 b 1 (by omega) (by omega)
  obtain ⟨m5, m6⟩ := mask_u8 a 3 (by omega) (by omega)
  obtain ⟨m3, m4⟩ := mask_u8 c 1 (by omega) (by omega)
  have hw : mayWin (1 + d % 16) (1 + bits BinOp.and IntKind.u8 a 3) (1 + bits BinOp.and IntKind.u8 b 1) (bits BinOp.and IntKind.u8 c 1) := ⟨by omega, by omega, by omega, by omega, by omega, by omega, by omega, by omega, h⟩
  obtain ⟨f1, f2, f3, f4, f5, f6, f7⟩ := out_fit hn (by omega) (by omega) (by omega) (by omega) (by omega) (by omega) (by omega) (by omega) h
  have u1 := Int.emod_nonneg r (show n ≠ 0 by omega)
  have u2 := Int.emod_lt_of_pos r (show 0 < n by omega)
  have u3 := Int.emod_nonneg m (show n - r % n ≠ 0 by omega)
  have u4 := Int.emod_lt_of_pos m (show 0 < n - r % n by omega)
  have fa := reaches_facts hw hn.out u1 u2 u3 u4 hF.out hT.out hO.out hE.out hL.out hV.out
  have q1 : Hid (0 = (reachI (r % n) (n - r % n + 1) (1 + bits BinOp.and IntKind.u8 a 3) (1 + bits BinOp.and IntKind.u8 b 1) (bits BinOp.and IntKind.u8 c 1) (1 + d % 16)).1) := Lib.hid (by rw [reachI_no (fun h => by have := h.2.2.2; rw [← hn.out] at this; omega)])
  have q2 : Hid (0 = (reachI (r % n) (n - r % n + 1) (1 + bits BinOp.and IntKind.u8 a 3) (1 + bits BinOp.and IntKind.u8 b 1) (bits BinOp.and IntKind.u8 c 1) (1 + d % 16)).2) := Lib.hid (by rw [reachI_no (fun h => by have := h.2.2.2; rw [← hn.out] at this; omega)])
  have e0 : (n == 0) = false := by simp; omega
  obtain ⟨t1, t2⟩ := fa.1 (Or.inr (Or.inl c2))
  have d1 : decide ((1 + bits BinOp.and IntKind.u8 a 3) ≤ (bits BinOp.and IntKind.u8 c 1)) = true := by simpa using t2
  subst c2
  have e1 : (T == 0) = false := by simpa using c1
  clear fa hw
  have F : (w.alloc (.cells #[.int .u8 a, .int .u8 b, .int .u8 c, .int .u8 d] 37)).cell? ⟨w.heap.size, 0, none⟩ = some (.int .u8 a) ∧ (w.alloc (.cells #[.int .u8 a, .int .u8 b, .int .u8 c, .int .u8 d] 37)).cell? ⟨w.heap.size, 1, none⟩ = some (.int .u8 b) ∧ (w.alloc (.cells #[.int .u8 a, .int .u8 b, .int .u8 c, .int .u8 d] 37)).cell? ⟨w.heap.size, 2, none⟩ = some (.int .u8 c) ∧ (w.alloc (.cells #[.int .u8 a, .int .u8 b, .int .u8 c, .int .u8 d] 37)).cell? ⟨w.heap.size, 3, none⟩ = some (.int .u8 d) ∧ w.heap.size < (w.alloc (.cells #[.int .u8 a, .int .u8 b, .int .u8 c, .int .u8 d] 37)).heap.size ∧ Grown w (w.alloc (.cells #[.int .u8 a, .int .u8 b, .int .u8 c, .int .u8 d] 37)) := ⟨by go_cell, by go_cell, by go_cell, by go_cell, by simp, by go_grown⟩
  go_enter Try.func6, Try.ntmps6
  go_wp2_with fail
  refine (shown_any _).mono ?_; rintro e w1 ⟨rfl, g1⟩
  obtain ⟨F0, F1, F2, F3, F4, F5⟩ := F
  have k0 := (grown_cell g1 (p := ⟨w.heap.size, 0, none⟩) F4).trans F0
  have k1 := (grown_cell g1 (p := ⟨w.heap.size, 1, none⟩) F4).trans F1
  have k2 := (grown_cell g1 (p := ⟨w.heap.size, 2, none⟩) F4).trans F2
  have k3 := (grown_cell g1 (p := ⟨w.heap.size, 3, none⟩) F4).trans F3
  have g := grown_trans F5 g1
  clear F0 F1 F2 F3 F4 F5 g1
  go_wp2_with fail
  refine (out_any _ _ _ _ _ _ hn).mono ?_; rintro e w2 ⟨rfl, g2⟩
  go_wp2_with fail
  refine (reach_any _ _ _ _ _ _ F T _ (by omega) (by omega) hF hT).mono ?_; rintro e w3 ⟨rfl, g3⟩
  go_wp2_with fail
  refine (reach_any _ _ _ _ _ _ O 0 _ (by omega) (by omega) hO hE).mono ?_; rintro e w4 ⟨rfl, g4⟩
  go_wp2_with fail
  refine (reach_any _ _ _ _ _ _ L V _ (by omega) (by omega) hL hV).mono ?_; rintro e w5 ⟨rfl, g5⟩
  go_wp2_with fail
  refine (reach_any _ _ _ _ _ _ 0 0 _ (by omega) (by omega) q1 q2).mono ?_; rintro e w6 ⟨rfl, g6⟩
  go_wp2_with fail
  go_ret
  exact ⟨rfl, grown_trans g (grown_trans g2 (grown_trans g3 (grown_trans g4 (grown_trans g5 g6))))⟩

set_option maxRecDepth 4000 in
set_option maxHeartbeats 4000000 in
theorem walk3 (r m a b c d : Int) (w0 : (Lit.int .u8 r).wf = true) (w1 : (Lit.int .u8 m).wf = true) (x0 : (Lit.int .u8 a).wf = true) (x1 : (Lit.int .u8 b).wf = true) (x2 : (Lit.int .u8 c).wf = true) (x3 : (Lit.int .u8 d).wf = true) (w : World) (n F T O E L V : Int) (h : (1 + bits BinOp.and IntKind.u8 a 3) ≤ (1 + d % 16) + 2 * (bits BinOp.and IntKind.u8 c 1)) (hn : Hid (n = outI (1 + d % 16) (1 + bits BinOp.and IntKind.u8 a 3) (1 + bits BinOp.and IntKind.u8 b 1) (bits BinOp.and IntKind.u8 c 1))) (hF : Hid (F = (reachI (r % n) (1 + (m % (n - r % n))) (1 + bits BinOp.and IntKind.u8 a 3) (1 + bits BinOp.and IntKind.u8 b 1) (bits BinOp.and IntKind.u8 c 1) (1 + d % 16)).1)) (hT : Hid (T = (reachI (r % n) (1 + (m % (n - r % n))) (1 + bits BinOp.and IntKind.u8 a 3) (1 + bits BinOp.and IntKind.u8 b 1) (bits BinOp.and IntKind.u8 c 1) (1 + d % 16)).2)) (hO : Hid (O = (reachI (r % n) 1 (1 + bits BinOp.and IntKind.u8 a 3) (1 + bits BinOp.and IntKind.u8 b 1) (bits BinOp.and IntKind.u8 c 1) (1 + d % 16)).1)) (hE : Hid (E = (reachI (r % n) 1 (1 + bits BinOp.and IntKind.u8 a 3) (1 + bits BinOp.and IntKind.u8 b 1) (bits BinOp.and IntKind.u8 c 1) (1 + d % 16)).2)) (hL : Hid (L = (reachI ((r % n) + (1 + (m % (n - r % n))) - 1) 1 (1 + bits BinOp.and IntKind.u8 a 3) (1 + bits BinOp.and IntKind.u8 b 1) (bits BinOp.and IntKind.u8 c 1) (1 + d % 16)).1)) (hV : Hid (V = (reachI ((r % n) + (1 + (m % (n - r % n))) - 1) 1 (1 + bits BinOp.and IntKind.u8 a 3) (1 + bits BinOp.and IntKind.u8 b 1) (bits BinOp.and IntKind.u8 c 1) (1 + d % 16)).2)) (c1 : T ≠ 0) (c2 : E ≠ 0) (c3 : V = 0) :
    Calls Try.prog 6 #[.int .u8 r, .int .u8 m, .agg #[.int .u8 a, .int .u8 b, .int .u8 c, .int .u8 d]] w fun e w' => e = .returned (.bool true) ∧ Grown w w' := by
  obtain ⟨r1, r2⟩ := wf_u8 w0
  obtain ⟨r3, r4⟩ := wf_u8 w1
  obtain ⟨r5, r6⟩ := wf_u8 x0
  obtain ⟨r7, r8⟩ := wf_u8 x1
  obtain ⟨r9, r10⟩ := wf_u8 x2
  obtain ⟨r11, r12⟩ := wf_u8 x3
  obtain ⟨m1, m2⟩ := mask_u8 b 1 (by omega) (by omega)
  obtain ⟨m5, m6⟩ := mask_u8 a 3 (by omega) (by omega)
  obtain ⟨m3, m4⟩ := mask_u8 c 1 (by omega) (by omega)
  have hw : mayWin (1 + d % 16) (1 + bits BinOp.and IntKind.u8 a 3) (1 + bits BinOp.and IntKind.u8 b 1) (bits BinOp.and IntKind.u8 c 1) := ⟨by omega, by omega, by omega, by omega, by omega, by omega, by omega, by omega, h⟩
  obtain ⟨f1, f2, f3, f4, f5, f6, f7⟩ := out_fit hn (by omega) (by omega) (by omega) (by omega) (by omega) (by omega) (by omega) (by omega) h
  have u1 := Int.emod_nonneg r (show n ≠ 0 by omega)
  have u2 := Int.emod_lt_of_pos r (show 0 < n by omega)
  have u3 := Int.emod_nonneg m (show n - r % n ≠ 0 by omega)
  have u4 := Int.emod_lt_of_pos m (show 0 < n - r % n by omega)
  have fa := reaches_facts hw hn.out u1 u2 u3 u4 hF.out hT.out hO.out hE.out hL.out hV.out
  have q1 : Hid (0 = (reachI (r % n) (n - r % n + 1) (1 + bits BinOp.and IntKind.u8 a 3) (1 + bits BinOp.and IntKind.u8 b 1) (bits BinOp.and IntKind.u8 c 1) (1 + d % 16)).1) := Lib.hid (by rw [reachI_no (fun h => by have := h.2.2.2; rw [← hn.out] at this; omega)])
  have q2 : Hid (0 = (reachI (r % n) (n - r % n + 1) (1 + bits BinOp.and IntKind.u8 a 3) (1 + bits BinOp.and IntKind.u8 b 1) (bits BinOp.and IntKind.u8 c 1) (1 + d % 16)).2) := Lib.hid (by rw [reachI_no (fun h => by have := h.2.2.2; rw [← hn.out] at this; omega)])
  have e0 : (n == 0) = false := by simp; omega
  obtain ⟨t1, t2⟩ := fa.1 (Or.inr (Or.inr c3))
  have d1 : decide ((1 + bits BinOp.and IntKind.u8 a 3) ≤ (bits BinOp.and IntKind.u8 c 1)) = true := by simpa using t2
  subst c3
  have e1 : (T == 0) = false := by simpa using c1
  have e2 : (E == 0) = false := by simpa using c2
  clear fa hw
  have F : (w.alloc (.cells #[.int .u8 a, .int .u8 b, .int .u8 c, .int .u8 d] 37)).cell? ⟨w.heap.size, 0, none⟩ = some (.int .u8 a) ∧ (w.alloc (.cells #[.int .u8 a, .int .u8 b, .int .u8 c, .int .u8 d] 37)).cell? ⟨w.heap.size, 1, none⟩ = some (.int .u8 b) ∧ (w.alloc (.cells #[.int .u8 a, .int .u8 b, .int .u8 c, .int .u8 d] 37)).cell? ⟨w.heap.size, 2, none⟩ = some (.int .u8 c) ∧ (w.alloc (.cells #[.int .u8 a, .int .u8 b, .int .u8 c, .int .u8 d] 37)).cell? ⟨w.heap.size, 3, none⟩ = some (.int .u8 d) ∧ w.heap.size < (w.alloc (.cells #[.int .u8 a, .int .u8 b, .int .u8 c, .int .u8 d] 37)).heap.size ∧ Grown w (w.alloc (.cells #[.int .u8 a, .int .u8 b, .int .u8 c, .int .u8 d] 37)) := ⟨by go_cell, by go_cell, by go_cell, by go_cell, by simp, by go_grown⟩
  go_enter Try.func6, Try.ntmps6
  go_wp2_with fail
  refine (shown_any _).mono ?_; rintro e w1 ⟨rfl, g1⟩
  obtain ⟨F0, F1, F2, F3, F4, F5⟩ := F
  have k0 := (grown_cell g1 (p := ⟨w.heap.size, 0, none⟩) F4).trans F0
  have k1 := (grown_cell g1 (p := ⟨w.heap.size, 1, none⟩) F4).trans F1
  have k2 := (grown_cell g1 (p := ⟨w.heap.size, 2, none⟩) F4).trans F2
  have k3 := (grown_cell g1 (p := ⟨w.heap.size, 3, none⟩) F4).trans F3
  have g := grown_trans F5 g1
  clear F0 F1 F2 F3 F4 F5 g1
  go_wp2_with fail
  refine (out_any _ _ _ _ _ _ hn).mono ?_; rintro e w2 ⟨rfl, g2⟩
  go_wp2_with fail
  refine (reach_any _ _ _ _ _ _ F T _ (by omega) (by omega) hF hT).mono ?_; rintro e w3 ⟨rfl, g3⟩
  go_wp2_with fail
  refine (reach_any _ _ _ _ _ _ O E _ (by omega) (by omega) hO hE).mono ?_; rintro e w4 ⟨rfl, g4⟩
  go_wp2_with fail
  refine (reach_any _ _ _ _ _ _ L 0 _ (by omega) (by omega) hL hV).mono ?_; rintro e w5 ⟨rfl, g5⟩
  go_wp2_with fail
  refine (reach_any _ _ _ _ _ _ 0 0 _ (by omega) (by omega) q1 q2).mono ?_; rintro e w6 ⟨rfl, g6⟩
  go_wp2_with fail
  go_ret
  exact ⟨rfl, grown_trans g (grown_trans g2 (grown_trans g3 (grown_trans g4 (grown_trans g5 g6))))⟩

set_option maxRecDepth 4000 in
set_option maxHeartbeats 4000000 in
theorem walk4 (r m a b c d : Int) (w0 : (Lit.int .u8 r).wf = true) (w1 : (Lit.int .u8 m).wf = true) (x0 : (Lit.int .u8 a).wf = true) (x1 : (Lit.int .u8 b).wf = true) (x2 : (Lit.int .u8 c).wf = true) (x3 : (Lit.int .u8 d).wf = true) (w : World) (n F T O E L V : Int) (h : (1 + bits BinOp.and IntKind.u8 a 3) ≤ (1 + d % 16) + 2 * (bits BinOp.and IntKind.u8 c 1)) (hn : Hid (n = outI (1 + d % 16) (1 + bits BinOp.and IntKind.u8 a 3) (1 + bits BinOp.and IntKind.u8 b 1) (bits BinOp.and IntKind.u8 c 1))) (hF : Hid (F = (reachI (r % n) (1 + (m % (n - r % n))) (1 + bits BinOp.and IntKind.u8 a 3) (1 + bits BinOp.and IntKind.u8 b 1) (bits BinOp.and IntKind.u8 c 1) (1 + d % 16)).1)) (hT : Hid (T = (reachI (r % n) (1 + (m % (n - r % n))) (1 + bits BinOp.and IntKind.u8 a 3) (1 + bits BinOp.and IntKind.u8 b 1) (bits BinOp.and IntKind.u8 c 1) (1 + d % 16)).2)) (hO : Hid (O = (reachI (r % n) 1 (1 + bits BinOp.and IntKind.u8 a 3) (1 + bits BinOp.and IntKind.u8 b 1) (bits BinOp.and IntKind.u8 c 1) (1 + d % 16)).1)) (hE : Hid (E = (reachI (r % n) 1 (1 + bits BinOp.and IntKind.u8 a 3) (1 + bits BinOp.and IntKind.u8 b 1) (bits BinOp.and IntKind.u8 c 1) (1 + d % 16)).2)) (hL : Hid (L = (reachI ((r % n) + (1 + (m % (n - r % n))) - 1) 1 (1 + bits BinOp.and IntKind.u8 a 3) (1 + bits BinOp.and IntKind.u8 b 1) (bits BinOp.and IntKind.u8 c 1) (1 + d % 16)).1)) (hV : Hid (V = (reachI ((r % n) + (1 + (m % (n - r % n))) - 1) 1 (1 + bits BinOp.and IntKind.u8 a 3) (1 + bits BinOp.and IntKind.u8 b 1) (bits BinOp.and IntKind.u8 c 1) (1 + d % 16)).2)) (c1 : T ≠ 0) (c2 : E ≠ 0) (c3 : V ≠ 0) :
    Calls Try.prog 6 #[.int .u8 r, .int .u8 m, .agg #[.int .u8 a, .int .u8 b, .int .u8 c, .int .u8 d]] w fun e w' => e = .returned (.bool true) ∧ Grown w w' := by
  obtain ⟨r1, r2⟩ := wf_u8 w0
  obtain ⟨r3, r4⟩ := wf_u8 w1
  obtain ⟨r5, r6⟩ := wf_u8 x0
  obtain ⟨r7, r8⟩ := wf_u8 x1
  obtain ⟨r9, r10⟩ := wf_u8 x2
  obtain ⟨r11, r12⟩ := wf_u8 x3
  obtain ⟨m1, m2⟩ := mask_u8 b 1 (by omega) (by omega)
  obtain ⟨m5, m6⟩ := mask_u8 a 3 (by omega) (by omega)
  obtain ⟨m3, m4⟩ := mask_u8 c 1 (by omega) (by omega)
  have hw : mayWin (1 + d % 16) (1 + bits BinOp.and IntKind.u8 a 3) (1 + bits BinOp.and IntKind.u8 b 1) (bits BinOp.and IntKind.u8 c 1) := ⟨by omega, by omega, by omega, by omega, by omega, by omega, by omega, by omega, h⟩
  obtain ⟨f1, f2, f3, f4, f5, f6, f7⟩ := out_fit hn (by omega) (by omega) (by omega) (by omega) (by omega) (by omega) (by omega) (by omega) h
  have u1 := Int.emod_nonneg r (show n ≠ 0 by omega)
  have u2 := Int.emod_lt_of_pos r (show 0 < n by omega)
  have u3 := Int.emod_nonneg m (show n - r % n ≠ 0 by omega)
  have u4 := Int.emod_lt_of_pos m (show 0 < n - r % n by omega)
  have fa := reaches_facts hw hn.out u1 u2 u3 u4 hF.out hT.out hO.out hE.out hL.out hV.out
  have q1 : Hid (0 = (reachI (r % n) (n - r % n + 1) (1 + bits BinOp.and IntKind.u8 a 3) (1 + bits BinOp.and IntKind.u8 b 1) (bits BinOp.and IntKind.u8 c 1) (1 + d % 16)).1) := Lib.hid (by rw [reachI_no (fun h => by have := h.2.2.2; rw [← hn.out] at this; omega)])
  have q2 : Hid (0 = (reachI (r % n) (n - r % n + 1) (1 + bits BinOp.and IntKind.u8 a 3) (1 + bits BinOp.and IntKind.u8 b 1) (bits BinOp.and IntKind.u8 c 1) (1 + d % 16)).2) := Lib.hid (by rw [reachI_no (fun h => by have := h.2.2.2; rw [← hn.out] at this; omega)])
  have e0 : (n == 0) = false := by simp; omega
  obtain ⟨t1, t2, t3, t4, t5⟩ := fa.2 c1 c2 c3
  subst t1 t2
  have e1 : (T == 0) = false := by simpa using c1
  have e2 : (E == 0) = false := by simpa using c2
  have d1 : decide ((1 + d % 16) + 2 * (bits BinOp.and IntKind.u8 c 1) < n * (1 + bits BinOp.and IntKind.u8 b 1) + (1 + bits BinOp.and IntKind.u8 a 3)) = true := by simpa using f5
  clear fa hw
  have F : (w.alloc (.cells #[.int .u8 a, .int .u8 b, .int .u8 c, .int .u8 d] 37)).cell? ⟨w.heap.size, 0, none⟩ = some (.int .u8 a) ∧ (w.alloc (.cells #[.int .u8 a, .int .u8 b, .int .u8 c, .int .u8 d] 37)).cell? ⟨w.heap.size, 1, none⟩ = some (.int .u8 b) ∧ (w.alloc (.cells #[.int .u8 a, .int .u8 b, .int .u8 c, .int .u8 d] 37)).cell? ⟨w.heap.size, 2, none⟩ = some (.int .u8 c) ∧ (w.alloc (.cells #[.int .u8 a, .int .u8 b, .int .u8 c, .int .u8 d] 37)).cell? ⟨w.heap.size, 3, none⟩ = some (.int .u8 d) ∧ w.heap.size < (w.alloc (.cells #[.int .u8 a, .int .u8 b, .int .u8 c, .int .u8 d] 37)).heap.size ∧ Grown w (w.alloc (.cells #[.int .u8 a, .int .u8 b, .int .u8 c, .int .u8 d] 37)) := ⟨by go_cell, by go_cell, by go_cell, by go_cell, by simp, by go_grown⟩
  go_enter Try.func6, Try.ntmps6
  go_wp2_with fail
  refine (shown_any _).mono ?_; rintro e w1 ⟨rfl, g1⟩
  obtain ⟨F0, F1, F2, F3, F4, F5⟩ := F
  have k0 := (grown_cell g1 (p := ⟨w.heap.size, 0, none⟩) F4).trans F0
  have k1 := (grown_cell g1 (p := ⟨w.heap.size, 1, none⟩) F4).trans F1
  have k2 := (grown_cell g1 (p := ⟨w.heap.size, 2, none⟩) F4).trans F2
  have k3 := (grown_cell g1 (p := ⟨w.heap.size, 3, none⟩) F4).trans F3
  have g := grown_trans F5 g1
  clear F0 F1 F2 F3 F4 F5 g1
  go_wp2_with fail
  refine (out_any _ _ _ _ _ _ hn).mono ?_; rintro e w2 ⟨rfl, g2⟩
  go_wp2_with fail
  refine (reach_any _ _ _ _ _ _ F T _ (by omega) (by omega) hF hT).mono ?_; rintro e w3 ⟨rfl, g3⟩
  go_wp2_with fail
  refine (reach_any _ _ _ _ _ _ F E _ (by omega) (by omega) hO hE).mono ?_; rintro e w4 ⟨rfl, g4⟩
  go_wp2_with fail
  refine (reach_any _ _ _ _ _ _ L T _ (by omega) (by omega) hL hV).mono ?_; rintro e w5 ⟨rfl, g5⟩
  go_wp2_with fail
  refine (reach_any _ _ _ _ _ _ 0 0 _ (by omega) (by omega) q1 q2).mono ?_; rintro e w6 ⟨rfl, g6⟩
  go_wp2_with fail
  go_ret
  exact ⟨rfl, grown_trans g (grown_trans g2 (grown_trans g3 (grown_trans g4 (grown_trans g5 g6))))⟩

theorem walk (r m a b c d : Int) (w0 : (Lit.int .u8 r).wf = true) (w1 : (Lit.int .u8 m).wf = true) (x0 : (Lit.int .u8 a).wf = true) (x1 : (Lit.int .u8 b).wf = true) (x2 : (Lit.int .u8 c).wf = true) (x3 : (Lit.int .u8 d).wf = true) (w : World) :
    Calls Try.prog 6 #[.int .u8 r, .int .u8 m, .agg #[.int .u8 a, .int .u8 b, .int .u8 c, .int .u8 d]] w fun e w' => e = .returned (.bool true) ∧ Grown w w' := by
  by_cases h : (1 + bits BinOp.and IntKind.u8 a 3) ≤ (1 + d % 16) + 2 * (bits BinOp.and IntKind.u8 c 1)
  · obtain ⟨n, hn⟩ : ∃ v, Hid (v = outI (1 + d % 16) (1 + bits BinOp.and IntKind.u8 a 3) (1 + bits BinOp.and IntKind.u8 b 1) (bits BinOp.and IntKind.u8 c 1)) := ⟨_, Lib.hid rfl⟩
    obtain ⟨F, hF⟩ : ∃ v, Hid (v = (reachI (r % n) (1 + (m % (n - r % n))) (1 + bits BinOp.and IntKind.u8 a 3) (1 + bits BinOp.and IntKind.u8 b 1) (bits BinOp.and IntKind.u8 c 1) (1 + d % 16)).1) := ⟨_, Lib.hid rfl⟩
    obtain ⟨T, hT⟩ : ∃ v, Hid (v = (reachI (r % n) (1 + (m % (n - r % n))) (1 + bits BinOp.and IntKind.u8 a 3) (1 + bits BinOp.and IntKind.u8 b 1) (bits BinOp.and IntKind.u8 c 1) (1 + d % 16)).2) := ⟨_, Lib.hid rfl⟩
    obtain ⟨O, hO⟩ : ∃ v, Hid (v = (reachI (r % n) 1 (1 + bits BinOp.and IntKind.u8 a 3) (1 + bits BinOp.and IntKind.u8 b 1) (bits BinOp.and IntKind.u8 c 1) (1 + d % 16)).1) := ⟨_, Lib.hid rfl⟩
    obtain ⟨E, hE⟩ : ∃ v, Hid (v = (reachI (r % n) 1 (1 + bits BinOp.and IntKind.u8 a 3) (1 + bits BinOp.and IntKind.u8 b 1) (bits BinOp.and IntKind.u8 c 1) (1 + d % 16)).2) := ⟨_, Lib.hid rfl⟩
    obtain ⟨L, hL⟩ : ∃ v, Hid (v = (reachI ((r % n) + (1 + (m % (n - r % n))) - 1) 1 (1 + bits BinOp.and IntKind.u8 a 3) (1 + bits BinOp.and IntKind.u8 b 1) (bits BinOp.and IntKind.u8 c 1) (1 + d % 16)).1) := ⟨_, Lib.hid rfl⟩
    obtain ⟨V, hV⟩ : ∃ v, Hid (v = (reachI ((r % n) + (1 + (m % (n - r % n))) - 1) 1 (1 + bits BinOp.and IntKind.u8 a 3) (1 + bits BinOp.and IntKind.u8 b 1) (bits BinOp.and IntKind.u8 c 1) (1 + d % 16)).2) := ⟨_, Lib.hid rfl⟩
    by_cases c1 : T = 0
    · exact walk1 r m a b c d w0 w1 x0 x1 x2 x3 w n F T O E L V h hn hF hT hO hE hL hV c1
    · by_cases c2 : E = 0
      · exact walk2 r m a b c d w0 w1 x0 x1 x2 x3 w n F T O E L V h hn hF hT hO hE hL hV c1 c2
      · by_cases c3 : V = 0
        · exact walk3 r m a b c d w0 w1 x0 x1 x2 x3 w n F T O E L V h hn hF hT hO hE hL hV c1 c2 c3
        · exact walk4 r m a b c d w0 w1 x0 x1 x2 x3 w n F T O E L V h hn hF hT hO hE hL hV c1 c2 c3
  · exact walkN r m a b c d w0 w1 x0 x1 x2 x3 w (by omega)

theorem own : ownKnob Try.prog.godebug = none := by kernel_rfl
theorem cells5 : Try.prog.cellsOf 5 = 1 := by kernel_rfl
theorem cells37 : Try.prog.cellsOf 37 = 4 := by kernel_rfl
theorem list4 {α : Type} (l : List α) (h : (⟨l⟩ : Array α).size = 4) : ∃ a b c d, l = [a, b, c, d] := by
  match l, h with
  | [a, b, c, d], _ => exact ⟨a, b, c, d, rfl⟩

set_option maxHeartbeats 400000 in
set_option maxRecDepth 100000 in
theorem lifted (os : Os) (started : os.Started) (H : Type) (enc : TypeId × Value → H) :
    ReturnsInHanded {} Try.checked os 6 .any (Rows.shapeReachesSpec.pre6 enc Try.prog Try.f6 Rows.shapeReachesRow.domain false) (Rows.shapeReachesSpec.post enc Try.prog Try.f6 false true false false) := by
  refine returnsInHanded_of_change (C := Try.checked) own started (by kernel_rfl) Try.func6
    (ChangeSpec.witness6 (enc := enc) (C := Try.checked) false ⟨#[], #[.int .u8 0, .int .u8 0, .agg #[.int .u8 0, .int .u8 0, .int .u8 0, .int .u8 0]], []⟩ 8 (by kernel_rfl) (by kernel_rfl) (by kernel_rfl) (by kernel_rfl)) ?_
  intro W base args ds gs before hval0 hW hcnd _
  have hval : ∀ (j : Nat) t v, Try.f6.params[j]? = some t → args[j]? = some v → Value.okWide Try.prog W .any base t v := hval0
  have hW' := hW
  obtain ⟨p, q, hA0, hV, rfl, hfz, hnd⟩ := hW
  have hA : DataW.TrodAll enc Try.prog W 0 (fun _ => true) true Try.f6.params.toList args.toList ds p := hA0
  rw [Try.params6] at hA hval
  obtain ⟨v0, vs0, d0, ds0, p0, q0, hargs, rfl, rfl, h0, r0⟩ := trodAll_cons hA
  obtain ⟨v1, vs1, d1, ds1, p1, q1, rfl, rfl, rfl, h1, r1⟩ := trodAll_cons r0
  obtain ⟨v2, vs2, d2, ds2, p2, q2, rfl, rfl, rfl, h2, r2⟩ := trodAll_cons r1
  obtain ⟨rfl, rfl, rfl⟩ := trodAll_nil r2
  obtain rfl : args = #[v0, v1, v2] := by cases args; simp_all
  obtain ⟨rfl, rfl⟩ := trodVars_none hV
  obtain ⟨z0, rfl, rfl, rfl, w0⟩ := open_int Try.underlying5 (hval 0 5 v0 rfl rfl) h0
  obtain ⟨z1, rfl, rfl, rfl, w1⟩ := open_int Try.underlying5 (hval 1 5 v1 rfl rfl) h1
  obtain ⟨cs2, rfl, hsz2, _⟩ : ∃ cs, v2 = .agg cs ∧ cs.size = Try.prog.cellsOf 37 ∧ Row.okWide Try.prog W .any base 37 cs := by
    have := hval 2 37 v2 rfl rfl
    simpa [Value.okWide, Try.underlying37] using this
  rw [cells37] at hsz2
  obtain ⟨l2⟩ := cs2
  obtain ⟨k2, k3, k4, k5, rfl⟩ := list4 l2 hsz2
  obtain ⟨fuel2, hf2⟩ := h2
  obtain ⟨y2, y3, y4, y5, m2, hx2, hy2, hy3, hy4, hy5⟩ := trod_array4 Try.underlying37 cells5 hf2
  obtain ⟨z2, e2, rfl, x2⟩ := DataW.trod_int Try.underlying5 hy2
  obtain ⟨z3, e3, rfl, x3⟩ := DataW.trod_int Try.underlying5 hy3
  obtain ⟨z4, e4, rfl, x4⟩ := DataW.trod_int Try.underlying5 hy4
  obtain ⟨z5, e5, rfl, x5⟩ := DataW.trod_int Try.underlying5 hy5
  simp at e2 e3 e4 e5
  subst e2 e3 e4 e5
  simp only [Prod.mk.injEq] at hx2
  obtain ⟨rfl, rfl⟩ := hx2
  clear hA0 hval0
  simp only [List.append_nil] at hW'
  refine (walk z0 z1 z2 z3 z4 z5 w0 w1 x2 x3 x4 x5 W).mono fun e W' ⟨he, hg⟩ => ?_
  subst he
  have rd2 : ∀ sp : Nat → Bool, DataW.Trod enc Try.prog W' 0 sp true 37 (.agg #[.int .u8 z2, .int .u8 z3, .int .u8 z4, .int .u8 z5]) (DataW.agg [.lit (.int .u8 z2), .lit (.int .u8 z3), .lit (.int .u8 z4), .lit (.int .u8 z5)]) [] := fun sp => ⟨2, by simp [DataW.trod, Value.cells, Try.underlying37, Try.underlying5, cells37, cells5, x2, x3, x4, x5, show List.range 4 = [0, 1, 2, 3] from rfl]⟩
  exact ⟨_, rfl, post_of_same (pa := []) (pv := []) hW' (fun _ _ _ => (trodAll_cons_mk (shut_bool Try.underlying4 _) trodAll_mk0)) (fun sp _ => (trodAll_cons_mk (shut_int Try.underlying5 w0) (trodAll_cons_mk (shut_int Try.underlying5 w1) (trodAll_cons_mk (rd2 sp) trodAll_mk0)))) (fun _ _ => rfl) rfl
    (hg.frame _) hg.2.1 (ok_one (by kernel_rfl) rfl (okWide_bool_mk Try.underlying4 _))⟩

theorem over : Rows.shapeReachesRow.holds Try.pinned (OpenSpec.ofChange Rows.shapeReachesSpec) :=
  OpenClaim.holds_of_wide 6 Try.f6 rfl rfl rfl rfl rfl rfl rfl ⟨rfl, rfl, rfl, rfl, rfl⟩ rfl rfl rfl rfl rfl (by kernel_rfl) Try.func6 (by kernel_rfl)
    (of_decide_eq_true (by kernel_rfl)) (by unfold Func.isWrapper; first | (rw [if_pos (by decide +kernel)]; kernel_rfl) | (rw [if_neg (by decide +kernel)]; exact ⟨rfl, rfl⟩))
    (fun os started H enc _ => lifted os started H enc)

/-- THE STATEMENT -/
theorem proved : Rows.ShapeReachesSaid :=
  over
#print axioms proved
end Go.Proofs.Ytcidpbdgikkndaa.shapeReaches
