/- Whatever three bytes: ShapeWhole returns true, and changes nothing that it was handed.
   Conditions: none beyond the row's own cells. -/
import Derived.Test.YtcidpbdgikkndaaRows
import Derived.Test.YtcidpbdgikkndaaReaches
import Derived.WalkKit
import Derived.ProofKit
import Derived.OpenShut
namespace Go.Proofs.Ytcidpbdgikkndaa.shapeWhole
open Go.ChangeShapes Go.WideShapes Go.ChangeAt Go.RowKit
set_option linter.unusedVariables false

theorem own : ownKnob Try.prog.godebug = none := by kernel_rfl

set_option maxRecDepth 4000 in
set_option maxHeartbeats 2000000 in
theorem walk11 (a0 : Int) (a1 : Int) (a2 : Int) (w0 : (Lit.int .u8 a0).wf = true) (w1 : (Lit.int .u8 a1).wf = true) (w2 : (Lit.int .u8 a2).wf = true) (w : World) (h1 : a1 % 3 = 0) (h2 : bits BinOp.and IntKind.u8 a2 1 = 0) (h3 : 1 ≤ (1 + a0 % 16) + 2 * 0) :
    Calls Try.prog 10 #[.int .u8 a0, .int .u8 a1, .int .u8 a2] w fun e w' => e = .returned (.bool true) ∧ Grown w w' := by
  obtain ⟨x1, x2⟩ := wf_u8 w0
  obtain ⟨y1, y2⟩ := wf_u8 w1
  obtain ⟨z1, z2⟩ := wf_u8 w2
  obtain ⟨m5, m6⟩ := mask_u8 (a2 / 2) 1 (by omega) (by omega)
  have hw : mayWin (1 + a0 % 16) 1 1 0 := ⟨by omega, by omega, by omega, by omega, by omega, by omega, by omega, by omega, by omega⟩
  obtain ⟨n, hn⟩ : ∃ v, Hid (v = outI (1 + a0 % 16) 1 1 0) := ⟨_, Lib.hid rfl⟩
  obtain ⟨f1, f2, f3, f4, f5, f6, f7⟩ := out_fit hn (by omega) (by omega) (by omega) (by omega) (by omega) (by omega) (by omega) (by omega) h3
  obtain ⟨F, hF⟩ : ∃ v, Hid (v = (reachI 0 n 1 1 0 (1 + a0 % 16)).1) := ⟨_, Lib.hid rfl⟩
  obtain ⟨T, hT⟩ : ∃ v, Hid (v = (reachI 0 n 1 1 0 (1 + a0 % 16)).2) := ⟨_, Lib.hid rfl⟩
  obtain ⟨e1, e2, e3⟩ := whole_facts hw hn.out (by omega) hF.out hT.out
  subst e1
  have E := Lib.hid e3
  clear e3
  unfold overI at e2
  obtain rfl : T = (1 + a0 % 16) := by omega
  clear e2 f3 f4 f5 f6 f7
  obtain ⟨N, rfl⟩ : ∃ N : Nat, n = N := ⟨n.toNat, by omega⟩
  have e0 : ((N : Int) == 0) = false := by simp; omega
  go_enter Try.func10, Try.ntmps10
  go_wp2_with fail
  refine (shown_any _).mono ?_; rintro e w1 ⟨rfl, g1⟩
  go_wp2_with fail
  refine (out_any _ _ _ _ _ _ hn).mono ?_; rintro e w2 ⟨rfl, g2⟩
  go_wp2_with fail
  refine (reach_any _ _ _ _ _ _ 0 (1 + a0 % 16) _ (by omega) (by omega) hF hT).mono ?_; rintro e w3 ⟨rfl, g3⟩
  have g := grown_trans g1 (grown_trans g2 g3)
  clear g1 g2 g3 e0
  go_wp2_with fail
  go_loopw [15] (fun i wr => ∃ j : Nat, j ≤ N ∧ i = .int .i64 j ∧ Grown w wr) (fun i _ => N - (intOf i).toNat)
  case atStart => exact ⟨0, by omega, rfl, g⟩
  case round =>
    obtain ⟨j, hj, rfl, gr⟩ := hrel
    by_cases l1 : j < N
    · obtain ⟨r1, r2, r3, r4, r5⟩ := E.out j (by omega) (by omega)
      obtain ⟨l, hl⟩ : ∃ v, Hid (v = leastI 1 0 j) := ⟨_, Lib.hid rfl⟩
      obtain ⟨b, hb⟩ : ∃ v, Hid (v = overI 1 1 0 (1 + a0 % 16) j) := ⟨_, Lib.hid rfl⟩
      have q1 : Hid (l = (reachI j 1 1 1 0 (1 + a0 % 16)).1) := Lib.hid (by rw [r1, hl.out])
      have q2 : Hid (b = (reachI j 1 1 1 0 (1 + a0 % 16)).2) := Lib.hid (by rw [r1, hb.out])
      rw [← hl.out, ← hb.out] at r2 r3
      rw [← hl.out] at r4
      rw [← hb.out] at r5
      clear r1 hl hb
      go_wp2_with fail
      refine (reach_any _ _ _ _ _ _ l b _ (by omega) (by omega) q1 q2).mono ?_; rintro e w4 ⟨rfl, g4⟩
      go_wp2_with fail
      go_roundw
      case rel => exact ⟨j + 1, by omega, by go_num, grown_trans gr g4⟩
      case measure => simp [intOf]; omega
    · obtain rfl : j = N := by omega
      go_wp2_with fail
      go_ret
      exact ⟨rfl, gr⟩

set_option maxRecDepth 4000 in
set_option maxHeartbeats 2000000 in
theorem walk12 (a0 : Int) (a1 : Int) (a2 : Int) (w0 : (Lit.int .u8 a0).wf = true) (w1 : (Lit.int .u8 a1).wf = true) (w2 : (Lit.int .u8 a2).wf = true) (w : World) (h1 : a1 % 3 = 0) (h2 : bits BinOp.and IntKind.u8 a2 1 = 1) (h3 : 1 ≤ (1 + a0 % 16) + 2 * 0) :
    Calls Try.prog 10 #[.int .u8 a0, .int .u8 a1, .int .u8 a2] w fun e w' => e = .returned (.bool true) ∧ Grown w w' := by
  obtain ⟨x1, x2⟩ := wf_u8 w0
  obtain ⟨y1, y2⟩ := wf_u8 w1
  obtain ⟨z1, z2⟩ := wf_u8 w2
  obtain ⟨m5, m6⟩ := mask_u8 (a2 / 2) 1 (by omega) (by omega)
  have hw : mayWin (1 + a0 % 16) 1 2 0 := ⟨by omega, by omega, by omega, by omega, by omega, by omega, by omega, by omega, by omega⟩
  obtain ⟨n, hn⟩ : ∃ v, Hid (v = outI (1 + a0 % 16) 1 2 0) := ⟨_, Lib.hid rfl⟩
  obtain ⟨f1, f2, f3, f4, f5, f6, f7⟩ := out_fit hn (by omega) (by omega) (by omega) (by omega) (by omega) (by omega) (by omega) (by omega) h3
  obtain ⟨F, hF⟩ : ∃ v, Hid (v = (reachI 0 n 1 2 0 (1 + a0 % 16)).1) := ⟨_, Lib.hid rfl⟩
  obtain ⟨T, hT⟩ : ∃ v, Hid (v = (reachI 0 n 1 2 0 (1 + a0 % 16)).2) := ⟨_, Lib.hid rfl⟩
  obtain ⟨e1, e2, e3⟩ := whole_facts hw hn.out (by omega) hF.out hT.out
  subst e1
  have E := Lib.hid e3
  clear e3
  unfold overI at e2
  have t1 : T ≤ (1 + a0 % 16) := by omega
  have t2 : (1 + a0 % 16) - 2 < T := by omega
  have d1 : decide ((1 + a0 % 16) - 2 < T) = true := by simpa using t2
  have t3 : -3 ≤ T := by omega
  clear e2 f3 f4 f5 f6 f7
  obtain ⟨N, rfl⟩ : ∃ N : Nat, n = N := ⟨n.toNat, by omega⟩
  have e0 : ((N : Int) == 0) = false := by simp; omega
  go_enter Try.func10, Try.ntmps10
  go_wp2_with fail
  refine (shown_any _).mono ?_; rintro e w1 ⟨rfl, g1⟩
  go_wp2_with fail
  refine (out_any _ _ _ _ _ _ hn).mono ?_; rintro e w2 ⟨rfl, g2⟩
  go_wp2_with fail
  refine (reach_any _ _ _ _ _ _ 0 T _ (by omega) (by omega) hF hT).mono ?_; rintro e w3 ⟨rfl, g3⟩
  have g := grown_trans g1 (grown_trans g2 g3)
  clear g1 g2 g3 e0
  go_wp2_with fail
  go_loopw [15] (fun i wr => ∃ j : Nat, j ≤ N ∧ i = .int .i64 j ∧ Grown w wr) (fun i _ => N - (intOf i).toNat)
  case atStart => exact ⟨0, by omega, rfl, g⟩
  case round =>
    obtain ⟨j, hj, rfl, gr⟩ := hrel
    by_cases l1 : j < N
    · obtain ⟨r1, r2, r3, r4, r5⟩ := E.out j (by omega) (by omega)
      obtain ⟨l, hl⟩ : ∃ v, Hid (v = leastI 2 0 j) := ⟨_, Lib.hid rfl⟩
      obtain ⟨b, hb⟩ : ∃ v, Hid (v = overI 1 2 0 (1 + a0 % 16) j) := ⟨_, Lib.hid rfl⟩
      have q1 : Hid (l = (reachI j 1 1 2 0 (1 + a0 % 16)).1) := Lib.hid (by rw [r1, hl.out])
      have q2 : Hid (b = (reachI j 1 1 2 0 (1 + a0 % 16)).2) := Lib.hid (by rw [r1, hb.out])
      rw [← hl.out, ← hb.out] at r2 r3
      rw [← hl.out] at r4
      rw [← hb.out] at r5
      clear r1 hl hb
      go_wp2_with fail
      refine (reach_any _ _ _ _ _ _ l b _ (by omega) (by omega) q1 q2).mono ?_; rintro e w4 ⟨rfl, g4⟩
      go_wp2_with fail
      go_roundw
      case rel => exact ⟨j + 1, by omega, by go_num, grown_trans gr g4⟩
      case measure => simp [intOf]; omega
    · obtain rfl : j = N := by omega
      go_wp2_with fail
      go_ret
      exact ⟨rfl, gr⟩

set_option maxRecDepth 4000 in
set_option maxHeartbeats 2000000 in
theorem walk21 (a0 : Int) (a1 : Int) (a2 : Int) (w0 : (Lit.int .u8 a0).wf = true) (w1 : (Lit.int .u8 a1).wf = true) (w2 : (Lit.int .u8 a2).wf = true) (w : World) (h1 : a1 % 3 = 1) (h2 : bits BinOp.and IntKind.u8 a2 1 = 0) (h3 : 2 ≤ (1 + a0 % 16) + 2 * (bits BinOp.and IntKind.u8 (a2 / 2) 1)) :
    Calls Try.prog 10 #[.int .u8 a0, .int .u8 a1, .int .u8 a2] w fun e w' => e = .returned (.bool true) ∧ Grown w w' := by
  obtain ⟨x1, x2⟩ := wf_u8 w0
  obtain ⟨y1, y2⟩ := wf_u8 w1
  obtain ⟨z1, z2⟩ := wf_u8 w2
  obtain ⟨m5, m6⟩ := mask_u8 (a2 / 2) 1 (by omega) (by omega)
  have hw : mayWin (1 + a0 % 16) 2 1 (bits BinOp.and IntKind.u8 (a2 / 2) 1) := ⟨by omega, by omega, by omega, by omega, by omega, by omega, by omega, by omega, by omega⟩
  obtain ⟨n, hn⟩ : ∃ v, Hid (v = outI (1 + a0 % 16) 2 1 (bits BinOp.and IntKind.u8 (a2 / 2) 1)) := ⟨_, Lib.hid rfl⟩
  obtain ⟨f1, f2, f3, f4, f5, f6, f7⟩ := out_fit hn (by omega) (by omega) (by omega) (by omega) (by omega) (by omega) (by omega) (by omega) h3
  obtain ⟨F, hF⟩ : ∃ v, Hid (v = (reachI 0 n 2 1 (bits BinOp.and IntKind.u8 (a2 / 2) 1) (1 + a0 % 16)).1) := ⟨_, Lib.hid rfl⟩
  obtain ⟨T, hT⟩ : ∃ v, Hid (v = (reachI 0 n 2 1 (bits BinOp.and IntKind.u8 (a2 / 2) 1) (1 + a0 % 16)).2) := ⟨_, Lib.hid rfl⟩
  obtain ⟨e1, e2, e3⟩ := whole_facts hw hn.out (by omega) hF.out hT.out
  subst e1
  have E := Lib.hid e3
  clear e3
  unfold overI at e2
  obtain rfl : T = (1 + a0 % 16) := by omega
  clear e2 f3 f4 f5 f6 f7
  obtain ⟨N, rfl⟩ : ∃ N : Nat, n = N := ⟨n.toNat, by omega⟩
  have e0 : ((N : Int) == 0) = false := by simp; omega
  go_enter Try.func10, Try.ntmps10
  go_wp2_with fail
  refine (shown_any _).mono ?_; rintro e w1 ⟨rfl, g1⟩
  go_wp2_with fail
  refine (out_any _ _ _ _ _ _ hn).mono ?_; rintro e w2 ⟨rfl, g2⟩
  go_wp2_with fail
  refine (reach_any _ _ _ _ _ _ 0 (1 + a0 % 16) _ (by omega) (by omega) hF hT).mono ?_; rintro e w3 ⟨rfl, g3⟩
  have g := grown_trans g1 (grown_trans g2 g3)
  clear g1 g2 g3 e0
  go_wp2_with fail
  go_loopw [15] (fun i wr => ∃ j : Nat, j ≤ N ∧ i = .int .i64 j ∧ Grown w wr) (fun i _ => N - (intOf i).toNat)
  case atStart => exact ⟨0, by omega, rfl, g⟩
  case round =>
    obtain ⟨j, hj, rfl, gr⟩ := hrel
    by_cases l1 : j < N
    · obtain ⟨r1, r2, r3, r4, r5⟩ := E.out j (by omega) (by omega)
      obtain ⟨l, hl⟩ : ∃ v, Hid (v = leastI 1 (bits BinOp.and IntKind.u8 (a2 / 2) 1) j) := ⟨_, Lib.hid rfl⟩
      obtain ⟨b, hb⟩ : ∃ v, Hid (v = overI 2 1 (bits BinOp.and IntKind.u8 (a2 / 2) 1) (1 + a0 % 16) j) := ⟨_, Lib.hid rfl⟩
      have q1 : Hid (l = (reachI j 1 2 1 (bits BinOp.and IntKind.u8 (a2 / 2) 1) (1 + a0 % 16)).1) := Lib.hid (by rw [r1, hl.out])
      have q2 : Hid (b = (reachI j 1 2 1 (bits BinOp.and IntKind.u8 (a2 / 2) 1) (1 + a0 % 16)).2) := Lib.hid (by rw [r1, hb.out])
      rw [← hl.out, ← hb.out] at r2 r3
      rw [← hl.out] at r4
      rw [← hb.out] at r5
      clear r1 hl hb
      go_wp2_with fail
      refine (reach_any _ _ _ _ _ _ l b _ (by omega) (by omega) q1 q2).mono ?_; rintro e w4 ⟨rfl, g4⟩
      go_wp2_with fail
      go_roundw
      case rel => exact ⟨j + 1, by omega, by go_num, grown_trans gr g4⟩
      case measure => simp [intOf]; omega
    · obtain rfl : j = N := by omega
      go_wp2_with fail
      go_ret
      exact ⟨rfl, gr⟩

set_option maxRecDepth 4000 in
set_option maxHeartbeats 2000000 in
theorem walkN21 (a0 : Int) (a1 : Int) (a2 : Int) (w0 : (Lit.int .u8 a0).wf = true) (w1 : (Lit.int .u8 a1).wf = true) (w2 : (Lit.int .u8 a2).wf = true) (w : World) (h1 : a1 % 3 = 1) (h2 : bits BinOp.and IntKind.u8 a2 1 = 0) (h3 : (1 + a0 % 16) + 2 * (bits BinOp.and IntKind.u8 (a2 / 2) 1) < 2) :
    Calls Try.prog 10 #[.int .u8 a0, .int .u8 a1, .int .u8 a2] w fun e w' => e = .returned (.bool true) ∧ Grown w w' := by
  obtain ⟨x1, x2⟩ := wf_u8 w0
  obtain ⟨y1, y2⟩ := wf_u8 w1
  obtain ⟨z1, z2⟩ := wf_u8 w2
  obtain ⟨m5, m6⟩ := mask_u8 (a2 / 2) 1 (by omega) (by omega)
  have hq : Hid (0 = outI (1 + a0 % 16) 2 1 (bits BinOp.and IntKind.u8 (a2 / 2) 1)) := Lib.hid (outI_no (fun h => by have := h.2.2.2.2.2.2.2.2; omega)).symm
  have d : decide ((1 + a0 % 16) + 2 * (bits BinOp.and IntKind.u8 (a2 / 2) 1) < 2) = true := by simpa using h3
  go_enter Try.func10, Try.ntmps10
  go_wp2_with fail
  refine (shown_any _).mono ?_; rintro e w1 ⟨rfl, g1⟩
  go_wp2_with fail
  refine (out_any _ _ _ _ _ _ hq).mono ?_; rintro e w2 ⟨rfl, g2⟩
  go_wp2_with fail
  go_ret
  exact ⟨rfl, grown_trans g1 g2⟩

set_option maxRecDepth 4000 in
set_option maxHeartbeats 2000000 in
theorem walk22 (a0 : Int) (a1 : Int) (a2 : Int) (w0 : (Lit.int .u8 a0).wf = true) (w1 : (Lit.int .u8 a1).wf = true) (w2 : (Lit.int .u8 a2).wf = true) (w : World) (h1 : a1 % 3 = 1) (h2 : bits BinOp.and IntKind.u8 a2 1 = 1) (h3 : 2 ≤ (1 + a0 % 16) + 2 * (bits BinOp.and IntKind.u8 (a2 / 2) 1)) :
    Calls Try.prog 10 #[.int .u8 a0, .int .u8 a1, .int .u8 a2] w fun e w' => e = .returned (.bool true) ∧ Grown w w' := by
  obtain ⟨x1, x2⟩ := wf_u8 w0
  obtain ⟨y1, y2⟩ := wf_u8 w1
  obtain ⟨z1, z2⟩ := wf_u8 w2
  obtain ⟨m5, m6⟩ := mask_u8 (a2 / 2) 1 (by omega) (by omega)
  have hw : mayWin (1 + a0 % 16) 2 2 (bits BinOp.and IntKind.u8 (a2 / 2) 1) := ⟨by omega, by omega, by omega, by omega, by omega, by omega, by omega, by omega, by omega⟩
  obtain ⟨n, hn⟩ : ∃ v, Hid (v = outI (1 + a0 % 16) 2 2 (bits BinOp.and IntKind.u8 (a2 / 2) 1)) := ⟨_, Lib.hid rfl⟩
  obtain ⟨f1, f2, f3, f4, f5, f6, f7⟩ := out_fit hn (by omega) (by omega) (by omega) (by omega) (by omega) (by omega) (by omega) (by omega) h3
  obtain ⟨F, hF⟩ : ∃ v, Hid (v = (reachI 0 n 2 2 (bits BinOp.and IntKind.u8 (a2 / 2) 1) (1 + a0 % 16)).1) := ⟨_, Lib.hid rfl⟩
  obtain ⟨T, hT⟩ : ∃ v, Hid (v = (reachI 0 n 2 2 (bits BinOp.and IntKind.u8 (a2 / 2) 1) (1 + a0 % 16)).2) := ⟨_, Lib.hid rfl⟩
  obtain ⟨e1, e2, e3⟩ := whole_facts hw hn.out (by omega) hF.out hT.out
  subst e1
  have E := Lib.hid e3
  clear e3
  unfold overI at e2
  have t1 : T ≤ (1 + a0 % 16) := by omega
  have t2 : (1 + a0 % 16) - 2 < T := by omega
  have d1 : decide ((1 + a0 % 16) - 2 < T) = true := by simpa using t2
  have t3 : -3 ≤ T := by omega
  clear e2 f3 f4 f5 f6 f7
  obtain ⟨N, rfl⟩ : ∃ N : Nat, n = N := ⟨n.toNat, by omega⟩
  have e0 : ((N : Int) == 0) = false := by simp; omega
  go_enter Try.func10, Try.ntmps10
  go_wp2_with fail
  refine (shown_any _).mono ?_; rintro e w1 ⟨rfl, g1⟩
  go_wp2_with fail
  refine (out_any _ _ _ _ _ _ hn).mono ?_; rintro e w2 ⟨rfl, g2⟩
  go_wp2_with fail
  refine (reach_any _ _ _ _ _ _ 0 T _ (by omega) (by omega) hF hT).mono ?_; rintro e w3 ⟨rfl, g3⟩
  have g := grown_trans g1 (grown_trans g2 g3)
  clear g1 g2 g3 e0
  go_wp2_with fail
  go_loopw [15] (fun i wr => ∃ j : Nat, j ≤ N ∧ i = .int .i64 j ∧ Grown w wr) (fun i _ => N - (intOf i).toNat)
  case atStart => exact ⟨0, by omega, rfl, g⟩
  case round =>
    obtain ⟨j, hj, rfl, gr⟩ := hrel
    by_cases l1 : j < N
    · obtain ⟨r1, r2, r3, r4, r5⟩ := E.out j (by omega) (by omega)
      obtain ⟨l, hl⟩ : ∃ v, Hid (v = leastI 2 (bits BinOp.and IntKind.u8 (a2 / 2) 1) j) := ⟨_, Lib.hid rfl⟩
      obtain ⟨b, hb⟩ : ∃ v, Hid (v = overI 2 2 (bits BinOp.and IntKind.u8 (a2 / 2) 1) (1 + a0 % 16) j) := ⟨_, Lib.hid rfl⟩
      have q1 : Hid (l = (reachI j 1 2 2 (bits BinOp.and IntKind.u8 (a2 / 2) 1) (1 + a0 % 16)).1) := Lib.hid (by rw [r1, hl.out])
      have q2 : Hid (b = (reachI j 1 2 2 (bits BinOp.and IntKind.u8 (a2 / 2) 1) (1 + a0 % 16)).2) := Lib.hid (by rw [r1, hb.out])
      rw [← hl.out, ← hb.out] at r2 r3
      rw [← hl.out] at r4
      rw [← hb.out] at r5
      clear r1 hl hb
      go_wp2_with fail
      refine (reach_any _ _ _ _ _ _ l b _ (by omega) (by omega) q1 q2).mono ?_; rintro e w4 ⟨rfl, g4⟩
      go_wp2_with fail
      go_roundw
      case rel => exact ⟨j + 1, by omega, by go_num, grown_trans gr g4⟩
      case measure => simp [intOf]; omega
    · obtain rfl : j = N := by omega
      go_wp2_with fail
      go_ret
      exact ⟨rfl, gr⟩

set_option maxRecDepth 4000 in
set_option maxHeartbeats 2000000 in
theorem walkN22 (a0 : Int) (a1 : Int) (a2 : Int) (w0 : (Lit.int .u8 a0).wf = true) (w1 : (Lit.int .u8 a1).wf = true) (w2 : (Lit.int .u8 a2).wf = true) (w : World) (h1 : a1 % 3 = 1) (h2 : bits BinOp.and IntKind.u8 a2 1 = 1) (h3 : (1 + a0 % 16) + 2 * (bits BinOp.and IntKind.u8 (a2 / 2) 1) < 2) :
    Calls Try.prog 10 #[.int .u8 a0, .int .u8 a1, .int .u8 a2] w fun e w' => e = .returned (.bool true) ∧ Grown w w' := by
  obtain ⟨x1, x2⟩ := wf_u8 w0
  obtain ⟨y1, y2⟩ := wf_u8 w1
  obtain ⟨z1, z2⟩ := wf_u8 w2
  obtain ⟨m5, m6⟩ := mask_u8 (a2 / 2) 1 (by omega) (by omega)
  have hq : Hid (0 = outI (1 + a0 % 16) 2 2 (bits BinOp.and IntKind.u8 (a2 / 2) 1)) := Lib.hid (outI_no (fun h => by have := h.2.2.2.2.2.2.2.2; omega)).symm
  have d : decide ((1 + a0 % 16) + 2 * (bits BinOp.and IntKind.u8 (a2 / 2) 1) < 2) = true := by simpa using h3
  go_enter Try.func10, Try.ntmps10
  go_wp2_with fail
  refine (shown_any _).mono ?_; rintro e w1 ⟨rfl, g1⟩
  go_wp2_with fail
  refine (out_any _ _ _ _ _ _ hq).mono ?_; rintro e w2 ⟨rfl, g2⟩
  go_wp2_with fail
  go_ret
  exact ⟨rfl, grown_trans g1 g2⟩

set_option maxRecDepth 4000 in
set_option maxHeartbeats 2000000 in
theorem walk31 (a0 : Int) (a1 : Int) (a2 : Int) (w0 : (Lit.int .u8 a0).wf = true) (w1 : (Lit.int .u8 a1).wf = true) (w2 : (Lit.int .u8 a2).wf = true) (w : World) (h1 : a1 % 3 = 2) (h2 : bits BinOp.and IntKind.u8 a2 1 = 0) (h3 : 3 ≤ (1 + a0 % 16) + 2 * (bits BinOp.and IntKind.u8 (a2 / 2) 1)) :
    Calls Try.prog 10 #[.int .u8 a0, .int .u8 a1, .int .u8 a2] w fun e w' => e = .returned (.bool true) ∧ Grown w w' := by
  obtain ⟨x1, x2⟩ := wf_u8 w0
  obtain ⟨y1, y2⟩ := wf_u8 w1
  obtain ⟨z1, z2⟩ := wf_u8 w2
  obtain ⟨m5, m6⟩ := mask_u8 (a2 / 2) 1 (by omega) (by omega)
  have hw : mayWin (1 + a0 % 16) 3 1 (bits BinOp.and IntKind.u8 (a2 / 2) 1) := ⟨by omega, by omega, by omega, by omega, by omega, by omega, by omega, by omega, by omega⟩
  obtain ⟨n, hn⟩ : ∃ v, Hid (v = outI (1 + a0 % 16) 3 1 (bits BinOp.and IntKind.u8 (a2 / 2) 1)) := ⟨_, Lib.hid rfl⟩
  obtain ⟨f1, f2, f3, f4, f5, f6, f7⟩ := out_fit hn (by omega) (by omega) (by omega) (by omega) (by omega) (by omega) (by omega) (by omega) h3
  obtain ⟨F, hF⟩ : ∃ v, Hid (v = (reachI 0 n 3 1 (bits BinOp.and IntKind.u8 (a2 / 2) 1) (1 + a0 % 16)).1) := ⟨_, Lib.hid rfl⟩
  obtain ⟨T, hT⟩ : ∃ v, Hid (v = (reachI 0 n 3 1 (bits BinOp.and IntKind.u8 (a2 / 2) 1) (1 + a0 % 16)).2) := ⟨_, Lib.hid rfl⟩
  obtain ⟨e1, e2, e3⟩ := whole_facts hw hn.out (by omega) hF.out hT.out
  subst e1
  have E := Lib.hid e3
  clear e3
  unfold overI at e2
  obtain rfl : T = (1 + a0 % 16) := by omega
  clear e2 f3 f4 f5 f6 f7
  obtain ⟨N, rfl⟩ : ∃ N : Nat, n = N := ⟨n.toNat, by omega⟩
  have e0 : ((N : Int) == 0) = false := by simp; omega
  go_enter Try.func10, Try.ntmps10
  go_wp2_with fail
  refine (shown_any _).mono ?_; rintro e w1 ⟨rfl, g1⟩
  go_wp2_with fail
  refine (out_any _ _ _ _ _ _ hn).mono ?_; rintro e w2 ⟨rfl, g2⟩
  go_wp2_with fail
  refine (reach_any _ _ _ _ _ _ 0 (1 + a0 % 16) _ (by omega) (by omega) hF hT).mono ?_; rintro e w3 ⟨rfl, g3⟩
  have g := grown_trans g1 (grown_trans g2 g3)
  clear g1 g2 g3 e0
  go_wp2_with fail
  go_loopw [15] (fun i wr => ∃ j : Nat, j ≤ N ∧ i = .int .i64 j ∧ Grown w wr) (fun i _ => N - (intOf i).toNat)
  case atStart => exact ⟨0, by omega, rfl, g⟩
  case round =>
    obtain ⟨j, hj, rfl, gr⟩ := hrel
    by_cases l1 : j < N
    · obtain ⟨r1, r2, r3, r4, r5⟩ := E.out j (by omega) (by omega)
      obtain ⟨l, hl⟩ : ∃ v, Hid (v = leastI 1 (bits BinOp.and IntKind.u8 (a2 / 2) 1) j) := ⟨_, Lib.hid rfl⟩
      obtain ⟨b, hb⟩ : ∃ v, Hid (v = overI 3 1 (bits BinOp.and IntKind.u8 (a2 / 2) 1) (1 + a0 % 16) j) := ⟨_, Lib.hid rfl⟩
      have q1 : Hid (l = (reachI j 1 3 1 (bits BinOp.and IntKind.u8 (a2 / 2) 1) (1 + a0 % 16)).1) := Lib.hid (by rw [r1, hl.out])
      have q2 : Hid (b = (reachI j 1 3 1 (bits BinOp.and IntKind.u8 (a2 / 2) 1) (1 + a0 % 16)).2) := Lib.hid (by rw [r1, hb.out])
      rw [← hl.out, ← hb.out] at r2 r3
      rw [← hl.out] at r4
      rw [← hb.out] at r5
      clear r1 hl hb
      go_wp2_with fail
      refine (reach_any _ _ _ _ _ _ l b _ (by omega) (by omega) q1 q2).mono ?_; rintro e w4 ⟨rfl, g4⟩
      go_wp2_with fail
      go_roundw
      case rel => exact ⟨j + 1, by omega, by go_num, grown_trans gr g4⟩
      case measure => simp [intOf]; omega
    · obtain rfl : j = N := by omega
      go_wp2_with fail
      go_ret
      exact ⟨rfl, gr⟩

set_option maxRecDepth 4000 in
set_option maxHeartbeats 2000000 in
theorem walkN31 (a0 : Int) (a1 : Int) (a2 : Int) (w0 : (Lit.int .u8 a0).wf = true) (w1 : (Lit.int .u8 a1).wf = true) (w2 : (Lit.int .u8 a2).wf = true) (w : World) (h1 : a1 % 3 = 2) (h2 : bits BinOp.and IntKind.u8 a2 1 = 0) (h3 : (1 + a0 % 16) + 2 * (bits BinOp.and IntKind.u8 (a2 / 2) 1) < 3) :
    Calls Try.prog 10 #[.int .u8 a0, .int .u8 a1, .int .u8 a2] w fun e w' => e = .returned (.bool true) ∧ Grown w w' := by
  obtain ⟨x1, x2⟩ := wf_u8 w0
  obtain ⟨y1, y2⟩ := wf_u8 w1
  obtain ⟨z1, z2⟩ := wf_u8 w2
  obtain ⟨m5, m6⟩ := mask_u8 (a2 / 2) 1 (by omega) (by omega)
  have hq : Hid (0 = outI (1 + a0 % 16) 3 1 (bits BinOp.and IntKind.u8 (a2 / 2) 1)) := Lib.hid (outI_no (fun h => by have := h.2.2.2.2.2.2.2.2; omega)).symm
  have d : decide ((1 + a0 % 16) + 2 * (bits BinOp.and IntKind.u8 (a2 / 2) 1) < 3) = true := by simpa using h3
  go_enter Try.func10, Try.ntmps10
  go_wp2_with fail
  refine (shown_any _).mono ?_; rintro e w1 ⟨rfl, g1⟩
  go_wp2_with fail
  refine (out_any _ _ _ _ _ _ hq).mono ?_; rintro e w2 ⟨rfl, g2⟩
  go_wp2_with fail
  go_ret
  exact ⟨rfl, grown_trans g1 g2⟩

set_option maxRecDepth 4000 in
set_option maxHeartbeats 2000000 in
theorem walk32 (a0 : Int) (a1 : Int) (a2 : Int) (w0 : (Lit.int .u8 a0).wf = true) (w1 : (Lit.int .u8 a1).wf = true) (w2 : (Lit.int .u8 a2).wf = true) (w : World) (h1 : a1 % 3 = 2) (h2 : bits BinOp.and IntKind.u8 a2 1 = 1) (h3 : 3 ≤ (1 + a0 % 16) + 2 * (bits BinOp.and IntKind.u8 (a2 / 2) 1)) :
    Calls Try.prog 10 #[.int .u8 a0, .int .u8 a1, .int .u8 a2] w fun e w' => e = .returned (.bool true) ∧ Grown w w' := by
  obtain ⟨x1, x2⟩ := wf_u8 w0
  obtain ⟨y1, y2⟩ := wf_u8 w1
  obtain ⟨z1, z2⟩ := wf_u8 w2
  obtain ⟨m5, m6⟩ := mask_u8 (a2 / 2) 1 (by omega) (by omega)
  have hw : mayWin (1 + a0 % 16) 3 2 (bits BinOp.and IntKind.u8 (a2 / 2) 1) := ⟨by omega, by omega, by omega, by omega, by omega, by omega, by omega, by omega, by omega⟩
  obtain ⟨n, hn⟩ : ∃ v, Hid (v = outI (1 + a0 % 16) 3 2 (bits BinOp.and IntKind.u8 (a2 / 2) 1)) := ⟨_, Lib.hid rfl⟩
  obtain ⟨f1, f2, f3, f4, f5, f6, f7⟩ := out_fit hn (by omega) (by omega) (by omega) (by omega) (by omega) (by omega) (by omega) (by omega) h3
  obtain ⟨F, hF⟩ : ∃ v, Hid (v = (reachI 0 n 3 2 (bits BinOp.and IntKind.u8 (a2 / 2) 1) (1 + a0 % 16)).1) := ⟨_, Lib.hid rfl⟩
  obtain ⟨T, hT⟩ : ∃ v, Hid (v = (reachI 0 n 3 2 (bits BinOp.and IntKind.u8 (a2 / 2) 1) (1 + a0 % 16)).2) := ⟨_, Lib.hid rfl⟩
  obtain ⟨e1, e2, e3⟩ := whole_facts hw hn.out (by omega) hF.out hT.out
  subst e1
  have E := Lib.hid e3
  clear e3
  unfold overI at e2
  have t1 : T ≤ (1 + a0 % 16) := by omega
  have t2 : (1 + a0 % 16) - 2 < T := by omega
  have d1 : decide ((1 + a0 % 16) - 2 < T) = true := by simpa using t2
  have t3 : -3 ≤ T := by omega
  clear e2 f3 f4 f5 f6 f7
  obtain ⟨N, rfl⟩ : ∃ N : Nat, n = N := ⟨n.toNat, by omega⟩
  have e0 : ((N : Int) == 0) = false := by simp; omega
  go_enter Try.func10, Try.ntmps10
  go_wp2_with fail
  refine (shown_any _).mono ?_; rintro e w1 ⟨rfl, g1⟩
  go_wp2_with fail
  refine (out_any _ _ _ _ _ _ hn).mono ?_; rintro e w2 ⟨rfl, g2⟩
  go_wp2_with fail
  refine (reach_any _ _ _ _ _ _ 0 T _ (by omega) (by omega) hF hT).mono ?_; rintro e w3 ⟨rfl, g3⟩
  have g := grown_trans g1 (grown_trans g2 g3)
  clear g1 g2 g3 e0
  go_wp2_with fail
  go_loopw [15] (fun i wr => ∃ j : Nat, j ≤ N ∧ i = .int .i64 j ∧ Grown w wr) (fun i _ => N - (intOf i).toNat)
  case atStart => exact ⟨0, by omega, rfl, g⟩
  case round =>
    obtain ⟨j, hj, rfl, gr⟩ := hrel
    by_cases l1 : j < N
    · obtain ⟨r1, r2, r3, r4, r5⟩ := E.out j (by omega) (by omega)
      obtain ⟨l, hl⟩ : ∃ v, Hid (v = leastI 2 (bits BinOp.and IntKind.u8 (a2 / 2) 1) j) := ⟨_, Lib.hid rfl⟩
      obtain ⟨b, hb⟩ : ∃ v, Hid (v = overI 3 2 (bits BinOp.and IntKind.u8 (a2 / 2) 1) (1 + a0 % 16) j) := ⟨_, Lib.hid rfl⟩
      have q1 : Hid (l = (reachI j 1 3 2 (bits BinOp.and IntKind.u8 (a2 / 2) 1) (1 + a0 % 16)).1) := Lib.hid (by rw [r1, hl.out])
      have q2 : Hid (b = (reachI j 1 3 2 (bits BinOp.and IntKind.u8 (a2 / 2) 1) (1 + a0 % 16)).2) := Lib.hid (by rw [r1, hb.out])
      rw [← hl.out, ← hb.out] at r2 r3
      rw [← hl.out] at r4
      rw [← hb.out] at r5
      clear r1 hl hb
      go_wp2_with fail
      refine (reach_any _ _ _ _ _ _ l b _ (by omega) (by omega) q1 q2).mono ?_; rintro e w4 ⟨rfl, g4⟩
      go_wp2_with fail
      go_roundw
      case rel => exact ⟨j + 1, by omega, by go_num, grown_trans gr g4⟩
      case measure => simp [intOf]; omega
    · obtain rfl : j = N := by omega
      go_wp2_with fail
      go_ret
      exact ⟨rfl, gr⟩

set_option maxRecDepth 4000 in
set_option maxHeartbeats 2000000 in
theorem walkN32 (a0 : Int) (a1 : Int) (a2 : Int) (w0 : (Lit.int .u8 a0).wf = true) (w1 : (Lit.int .u8 a1).wf = true) (w2 : (Lit.int .u8 a2).wf = true) (w : World) (h1 : a1 % 3 = 2) (h2 : bits BinOp.and IntKind.u8 a2 1 = 1) (h3 : (1 + a0 % 16) + 2 * (bits BinOp.and IntKind.u8 (a2 / 2) 1) < 3) :
    Calls Try.prog 10 #[.int .u8 a0, .int .u8 a1, .int .u8 a2] w fun e w' => e = .returned (.bool true) ∧ Grown w w' := by
  obtain ⟨x1, x2⟩ := wf_u8 w0
  obtain ⟨y1, y2⟩ := wf_u8 w1
  obtain ⟨z1, z2⟩ := wf_u8 w2
  obtain ⟨m5, m6⟩ := mask_u8 (a2 / 2) 1 (by omega) (by omega)
  have hq : Hid (0 = outI (1 + a0 % 16) 3 2 (bits BinOp.and IntKind.u8 (a2 / 2) 1)) := Lib.hid (outI_no (fun h => by have := h.2.2.2.2.2.2.2.2; omega)).symm
  have d : decide ((1 + a0 % 16) + 2 * (bits BinOp.and IntKind.u8 (a2 / 2) 1) < 3) = true := by simpa using h3
  go_enter Try.func10, Try.ntmps10
  go_wp2_with fail
  refine (shown_any _).mono ?_; rintro e w1 ⟨rfl, g1⟩
  go_wp2_with fail
  refine (out_any _ _ _ _ _ _ hq).mono ?_; rintro e w2 ⟨rfl, g2⟩
  go_wp2_with fail
  go_ret
  exact ⟨rfl, grown_trans g1 g2⟩

theorem walk (a0 : Int) (a1 : Int) (a2 : Int) (w0 : (Lit.int .u8 a0).wf = true) (w1 : (Lit.int .u8 a1).wf = true) (w2 : (Lit.int .u8 a2).wf = true) (w : World) :
    Calls Try.prog 10 #[.int .u8 a0, .int .u8 a1, .int .u8 a2] w fun e w' => e = .returned (.bool true) ∧ Grown w w' := by
  obtain ⟨x1, x2⟩ := wf_u8 w0
  obtain ⟨y1, y2⟩ := wf_u8 w1
  obtain ⟨m3, m4⟩ := mask_u8 a2 1 (by omega) (by omega)
  obtain ⟨m5, m6⟩ := mask_u8 (a2 / 2) 1 (by omega) (by omega)
  by_cases h1 : a1 % 3 = 0
  · by_cases s : bits BinOp.and IntKind.u8 a2 1 = 0
    · exact walk11 a0 a1 a2 w0 w1 w2 w h1 s (by omega)
    · exact walk12 a0 a1 a2 w0 w1 w2 w h1 (by omega) (by omega)
  by_cases h2 : a1 % 3 = 1
  · by_cases s : bits BinOp.and IntKind.u8 a2 1 = 0
    · by_cases f : 2 ≤ (1 + a0 % 16) + 2 * (bits BinOp.and IntKind.u8 (a2 / 2) 1)
      · exact walk21 a0 a1 a2 w0 w1 w2 w h2 s f
      · exact walkN21 a0 a1 a2 w0 w1 w2 w h2 s (by omega)
    · by_cases f : 2 ≤ (1 + a0 % 16) + 2 * (bits BinOp.and IntKind.u8 (a2 / 2) 1)
      · exact walk22 a0 a1 a2 w0 w1 w2 w h2 (by omega) f
      · exact walkN22 a0 a1 a2 w0 w1 w2 w h2 (by omega) (by omega)
  have h3 : a1 % 3 = 2 := by omega
  by_cases s : bits BinOp.and IntKind.u8 a2 1 = 0
  · by_cases f : 3 ≤ (1 + a0 % 16) + 2 * (bits BinOp.and IntKind.u8 (a2 / 2) 1)
    · exact walk31 a0 a1 a2 w0 w1 w2 w h3 s f
    · exact walkN31 a0 a1 a2 w0 w1 w2 w h3 s (by omega)
  · by_cases f : 3 ≤ (1 + a0 % 16) + 2 * (bits BinOp.and IntKind.u8 (a2 / 2) 1)
    · exact walk32 a0 a1 a2 w0 w1 w2 w h3 (by omega) f
    · exact walkN32 a0 a1 a2 w0 w1 w2 w h3 (by omega) (by omega)

/-! ### THE ROW's STEP: WRITTEN OUT: LEAVE IT -/
set_option maxRecDepth 100000 in
theorem lifted (os : Os) (started : os.Started) (H : Type) (enc : TypeId × Value → H) :
    ReturnsInHanded {} Try.checked os 10 .any (Rows.shapeWholeSpec.pre6 enc Try.prog Try.f10 Rows.shapeWholeRow.domain false) (Rows.shapeWholeSpec.post enc Try.prog Try.f10 false true false false) := by
  refine returnsInHanded_of_change (C := Try.checked) own started (by kernel_rfl) Try.func10
    (ChangeSpec.witness6 (enc := enc) (C := Try.checked) false ⟨#[], #[.int .u8 0, .int .u8 0, .int .u8 0], []⟩ 8 (by kernel_rfl) (by kernel_rfl) (by kernel_rfl) (by kernel_rfl)) ?_
  intro W base args ds gs before hval0 hW hcnd _
  have hval : ∀ (j : Nat) t v, Try.f10.params[j]? = some t → args[j]? = some v → Value.okWide Try.prog W .any base t v := hval0
  have hW' := hW
  obtain ⟨p, q, hA0, hV, rfl, hfz, hnd⟩ := hW
  have hA : DataW.TrodAll enc Try.prog W 0 (fun _ => true) true Try.f10.params.toList args.toList ds p := hA0
  rw [Try.params10] at hA hval
  obtain ⟨v0, vs0, d0, ds0, p0, q0, hargs, rfl, rfl, h0, r0⟩ := trodAll_cons hA
  obtain ⟨v1, vs1, d1, ds1, p1, q1, rfl, rfl, rfl, h1, r1⟩ := trodAll_cons r0
  obtain ⟨v2, vs2, d2, ds2, p2, q2, rfl, rfl, rfl, h2, r2⟩ := trodAll_cons r1
  obtain ⟨rfl, rfl, rfl⟩ := trodAll_nil r2
  obtain rfl : args = #[v0, v1, v2] := by cases args; simp_all
  obtain ⟨rfl, rfl⟩ := trodVars_none hV
  obtain ⟨a0, rfl, rfl, rfl, w0⟩ := open_int Try.underlying5 (hval 0 5 v0 rfl rfl) h0
  obtain ⟨a1, rfl, rfl, rfl, w1⟩ := open_int Try.underlying5 (hval 1 5 v1 rfl rfl) h1
  obtain ⟨a2, rfl, rfl, rfl, w2⟩ := open_int Try.underlying5 (hval 2 5 v2 rfl rfl) h2
  clear hA0 hval0
  simp only [List.append_nil] at hW'
  refine (walk a0 a1 a2 w0 w1 w2 W).mono fun e W' ⟨he, hg⟩ => ?_
  subst he
  exact ⟨_, rfl, post_of_same (pa := []) (pv := []) hW' (fun _ _ _ => (trodAll_cons_mk (shut_bool Try.underlying4 _) trodAll_mk0)) (fun sp _ => (trodAll_cons_mk (shut_int Try.underlying5 w0) (trodAll_cons_mk (shut_int Try.underlying5 w1) (trodAll_cons_mk (shut_int Try.underlying5 w2) trodAll_mk0)))) (fun _ _ => rfl) rfl
    (hg.frame _) hg.2.1 (ok_one (by kernel_rfl) rfl (okWide_bool_mk Try.underlying4 _))⟩

theorem over : Rows.shapeWholeRow.holds Try.pinned (OpenSpec.ofChange Rows.shapeWholeSpec) :=
  OpenClaim.holds_of_wide 10 Try.f10 rfl rfl rfl rfl rfl rfl rfl ⟨rfl, rfl, rfl, rfl, rfl⟩ rfl rfl rfl rfl rfl (by kernel_rfl) Try.func10 (by kernel_rfl)
    (of_decide_eq_true (by kernel_rfl)) (by unfold Func.isWrapper; first | (rw [if_pos (by decide +kernel)]; kernel_rfl) | (rw [if_neg (by decide +kernel)]; exact ⟨rfl, rfl⟩))
    (fun os started H enc _ => lifted os started H enc)

/-- THE STATEMENT -/
theorem proved : Rows.ShapeWholeSaid :=
  over
#print axioms proved
end Go.Proofs.Ytcidpbdgikkndaa.shapeWhole
