/- graph: set. -/
import Derived.Test.YtgbedoffgahhaaaSpec
namespace Go.Proofs.Ytgbedoffgahhaaa
open Go.ChangeShapes Go.WideShapes Go.ChangeAt Go.RowKit
set_option maxRecDepth 20000
set_option linter.unusedVariables false

set_option maxHeartbeats 1000000 in
theorem set_k (r : OpD) (mk ct : Value) (n : NodeD) (vi vw vb : Value) (W : World) (a1 : holdB r.k1 r.k2 n.k = false) :
    Calls Try.prog 80 #[.agg #[.int .i64 r.vals, .int .i64 r.k1, .int .i64 r.k2, .int .i64 r.s1, .int .i64 r.s2, .int .i64 r.p1, .int .i64 r.p2, .int .i64 r.o1, .int .i64 r.o2, .bool r.resh, .bool r.keeps, mk, ct], .agg #[.int .i64 n.op, vi, .int .i64 n.k, .int .i64 n.stride, .int .i64 n.pad, .int .i64 n.out, .int .i64 n.mul, .int .i64 n.shift, .int .i64 n.zero, .int .i64 n.th, .int .i64 n.tw, .int .i64 n.tc, vw, vb]] W fun e w' => e = .returned (.bool false) ∧ Grown W w' := by
  go_enter Try.func80, Try.ntmps80
  go_wp2_with (first | (go_at_call 51; with_reducible refine (hold_any _ _ _ _).mono ?_; rintro e w1 ⟨rfl, rfl⟩))
  go_ret
  exact ⟨rfl, by go_grown⟩

set_option maxHeartbeats 1000000 in
theorem set_s (r : OpD) (mk ct : Value) (n : NodeD) (vi vw vb : Value) (W : World) (a1 : holdB r.k1 r.k2 n.k = true) (a2 : holdB r.s1 r.s2 n.stride = false) :
    Calls Try.prog 80 #[.agg #[.int .i64 r.vals, .int .i64 r.k1, .int .i64 r.k2, .int .i64 r.s1, .int .i64 r.s2, .int .i64 r.p1, .int .i64 r.p2, .int .i64 r.o1, .int .i64 r.o2, .bool r.resh, .bool r.keeps, mk, ct], .agg #[.int .i64 n.op, vi, .int .i64 n.k, .int .i64 n.stride, .int .i64 n.pad, .int .i64 n.out, .int .i64 n.mul, .int .i64 n.shift, .int .i64 n.zero, .int .i64 n.th, .int .i64 n.tw, .int .i64 n.tc, vw, vb]] W fun e w' => e = .returned (.bool false) ∧ Grown W w' := by
  go_enter Try.func80, Try.ntmps80
  go_wp2_with (first | (go_at_call 51; with_reducible refine (hold_any _ _ _ _).mono ?_; rintro e w1 ⟨rfl, rfl⟩))
  go_ret
  exact ⟨rfl, by go_grown⟩

set_option maxHeartbeats 1000000 in
theorem set_p (r : OpD) (mk ct : Value) (n : NodeD) (vi vw vb : Value) (W : World) (a1 : holdB r.k1 r.k2 n.k = true) (a2 : holdB r.s1 r.s2 n.stride = true) (a3 : holdB r.p1 r.p2 n.pad = false) :
    Calls Try.prog 80 #[.agg #[.int .i64 r.vals, .int .i64 r.k1, .int .i64 r.k2, .int .i64 r.s1, .int .i64 r.s2, .int .i64 r.p1, .int .i64 r.p2, .int .i64 r.o1, .int .i64 r.o2, .bool r.resh, .bool r.keeps, mk, ct], .agg #[.int .i64 n.op, vi, .int .i64 n.k, .int .i64 n.stride, .int .i64 n.pad, .int .i64 n.out, .int .i64 n.mul, .int .i64 n.shift, .int .i64 n.zero, .int .i64 n.th, .int .i64 n.tw, .int .i64 n.tc, vw, vb]] W fun e w' => e = .returned (.bool false) ∧ Grown W w' := by
  go_enter Try.func80, Try.ntmps80
  go_wp2_with (first | (go_at_call 51; with_reducible refine (hold_any _ _ _ _).mono ?_; rintro e w1 ⟨rfl, rfl⟩))
  go_ret
  exact ⟨rfl, by go_grown⟩

set_option maxHeartbeats 1000000 in
theorem set_o (r : OpD) (mk ct : Value) (n : NodeD) (vi vw vb : Value) (W : World) (a1 : holdB r.k1 r.k2 n.k = true) (a2 : holdB r.s1 r.s2 n.stride = true) (a3 : holdB r.p1 r.p2 n.pad = true) (a4 : holdB r.o1 r.o2 n.out = false) :
    Calls Try.prog 80 #[.agg #[.int .i64 r.vals, .int .i64 r.k1, .int .i64 r.k2, .int .i64 r.s1, .int .i64 r.s2, .int .i64 r.p1, .int .i64 r.p2, .int .i64 r.o1, .int .i64 r.o2, .bool r.resh, .bool r.keeps, mk, ct], .agg #[.int .i64 n.op, vi, .int .i64 n.k, .int .i64 n.stride, .int .i64 n.pad, .int .i64 n.out, .int .i64 n.mul, .int .i64 n.shift, .int .i64 n.zero, .int .i64 n.th, .int .i64 n.tw, .int .i64 n.tc, vw, vb]] W fun e w' => e = .returned (.bool false) ∧ Grown W w' := by
  go_enter Try.func80, Try.ntmps80
  go_wp2_with (first | (go_at_call 51; with_reducible refine (hold_any _ _ _ _).mono ?_; rintro e w1 ⟨rfl, rfl⟩))
  go_ret
  exact ⟨rfl, by go_grown⟩

set_option maxHeartbeats 1000000 in
theorem set_w (r : OpD) (mk ct : Value) (n : NodeD) (vi vw vb : Value) (W : World) (a1 : holdB r.k1 r.k2 n.k = true) (a2 : holdB r.s1 r.s2 n.stride = true) (a3 : holdB r.p1 r.p2 n.pad = true) (a4 : holdB r.o1 r.o2 n.out = true) (c1 : 0 < r.k2) (c2 : decide (n.k ≤ n.pad) = true) :
    Calls Try.prog 80 #[.agg #[.int .i64 r.vals, .int .i64 r.k1, .int .i64 r.k2, .int .i64 r.s1, .int .i64 r.s2, .int .i64 r.p1, .int .i64 r.p2, .int .i64 r.o1, .int .i64 r.o2, .bool r.resh, .bool r.keeps, mk, ct], .agg #[.int .i64 n.op, vi, .int .i64 n.k, .int .i64 n.stride, .int .i64 n.pad, .int .i64 n.out, .int .i64 n.mul, .int .i64 n.shift, .int .i64 n.zero, .int .i64 n.th, .int .i64 n.tw, .int .i64 n.tc, vw, vb]] W fun e w' => e = .returned (.bool false) ∧ Grown W w' := by
  go_enter Try.func80, Try.ntmps80
  go_wp2_with (first | (go_at_call 51; with_reducible refine (hold_any _ _ _ _).mono ?_; rintro e w1 ⟨rfl, rfl⟩))
  go_ret
  exact ⟨rfl, by go_grown⟩

set_option maxHeartbeats 1000000 in
theorem set_yr (r : OpD) (mk ct : Value) (n : NodeD) (vi vw vb : Value) (W : World) (a1 : holdB r.k1 r.k2 n.k = true) (a2 : holdB r.s1 r.s2 n.stride = true) (a3 : holdB r.p1 r.p2 n.pad = true) (a4 : holdB r.o1 r.o2 n.out = true) (c1 : 0 < r.k2) (c2 : decide (n.k ≤ n.pad) = false) (d : r.resh = true) :
    Calls Try.prog 80 #[.agg #[.int .i64 r.vals, .int .i64 r.k1, .int .i64 r.k2, .int .i64 r.s1, .int .i64 r.s2, .int .i64 r.p1, .int .i64 r.p2, .int .i64 r.o1, .int .i64 r.o2, .bool r.resh, .bool r.keeps, mk, ct], .agg #[.int .i64 n.op, vi, .int .i64 n.k, .int .i64 n.stride, .int .i64 n.pad, .int .i64 n.out, .int .i64 n.mul, .int .i64 n.shift, .int .i64 n.zero, .int .i64 n.th, .int .i64 n.tw, .int .i64 n.tc, vw, vb]] W fun e w' => e = .returned (.bool true) ∧ Grown W w' := by
  go_enter Try.func80, Try.ntmps80
  go_wp2_with (first | (go_at_call 51; with_reducible refine (hold_any _ _ _ _).mono ?_; rintro e w1 ⟨rfl, rfl⟩))
  go_ret
  exact ⟨rfl, by go_grown⟩

set_option maxHeartbeats 1000000 in
theorem set_yz (r : OpD) (mk ct : Value) (n : NodeD) (vi vw vb : Value) (W : World) (a1 : holdB r.k1 r.k2 n.k = true) (a2 : holdB r.s1 r.s2 n.stride = true) (a3 : holdB r.p1 r.p2 n.pad = true) (a4 : holdB r.o1 r.o2 n.out = true) (c1 : 0 < r.k2) (c2 : decide (n.k ≤ n.pad) = false) (d : r.resh = false) (z1 : (n.th == 0) = true) (z2 : (n.tw == 0) = true) (z3 : (n.tc == 0) = true) :
    Calls Try.prog 80 #[.agg #[.int .i64 r.vals, .int .i64 r.k1, .int .i64 r.k2, .int .i64 r.s1, .int .i64 r.s2, .int .i64 r.p1, .int .i64 r.p2, .int .i64 r.o1, .int .i64 r.o2, .bool r.resh, .bool r.keeps, mk, ct], .agg #[.int .i64 n.op, vi, .int .i64 n.k, .int .i64 n.stride, .int .i64 n.pad, .int .i64 n.out, .int .i64 n.mul, .int .i64 n.shift, .int .i64 n.zero, .int .i64 n.th, .int .i64 n.tw, .int .i64 n.tc, vw, vb]] W fun e w' => e = .returned (.bool true) ∧ Grown W w' := by
  go_enter Try.func80, Try.ntmps80
  go_wp2_with (first | (go_at_call 51; with_reducible refine (hold_any _ _ _ _).mono ?_; rintro e w1 ⟨rfl, rfl⟩))
  go_ret
  exact ⟨rfl, by go_grown⟩

set_option maxHeartbeats 1000000 in
theorem set_y1 (r : OpD) (mk ct : Value) (n : NodeD) (vi vw vb : Value) (W : World) (a1 : holdB r.k1 r.k2 n.k = true) (a2 : holdB r.s1 r.s2 n.stride = true) (a3 : holdB r.p1 r.p2 n.pad = true) (a4 : holdB r.o1 r.o2 n.out = true) (c1 : 0 < r.k2) (c2 : decide (n.k ≤ n.pad) = false) (d : r.resh = false) (z1 : (n.th == 0) = false) :
    Calls Try.prog 80 #[.agg #[.int .i64 r.vals, .int .i64 r.k1, .int .i64 r.k2, .int .i64 r.s1, .int .i64 r.s2, .int .i64 r.p1, .int .i64 r.p2, .int .i64 r.o1, .int .i64 r.o2, .bool r.resh, .bool r.keeps, mk, ct], .agg #[.int .i64 n.op, vi, .int .i64 n.k, .int .i64 n.stride, .int .i64 n.pad, .int .i64 n.out, .int .i64 n.mul, .int .i64 n.shift, .int .i64 n.zero, .int .i64 n.th, .int .i64 n.tw, .int .i64 n.tc, vw, vb]] W fun e w' => e = .returned (.bool false) ∧ Grown W w' := by
  go_enter Try.func80, Try.ntmps80
  go_wp2_with (first | (go_at_call 51; with_reducible refine (hold_any _ _ _ _).mono ?_; rintro e w1 ⟨rfl, rfl⟩))
  go_ret
  exact ⟨rfl, by go_grown⟩

set_option maxHeartbeats 1000000 in
theorem set_y2 (r : OpD) (mk ct : Value) (n : NodeD) (vi vw vb : Value) (W : World) (a1 : holdB r.k1 r.k2 n.k = true) (a2 : holdB r.s1 r.s2 n.stride = true) (a3 : holdB r.p1 r.p2 n.pad = true) (a4 : holdB r.o1 r.o2 n.out = true) (c1 : 0 < r.k2) (c2 : decide (n.k ≤ n.pad) = false) (d : r.resh = false) (z1 : (n.th == 0) = true) (z2 : (n.tw == 0) = false) :
    Calls Try.prog 80 #[.agg #[.int .i64 r.vals, .int .i64 r.k1, .int .i64 r.k2, .int .i64 r.s1, .int .i64 r.s2, .int .i64 r.p1, .int .i64 r.p2, .int .i64 r.o1, .int .i64 r.o2, .bool r.resh, .bool r.keeps, mk, ct], .agg #[.int .i64 n.op, vi, .int .i64 n.k, .int .i64 n.stride, .int .i64 n.pad, .int .i64 n.out, .int .i64 n.mul, .int .i64 n.shift, .int .i64 n.zero, .int .i64 n.th, .int .i64 n.tw, .int .i64 n.tc, vw, vb]] W fun e w' => e = .returned (.bool false) ∧ Grown W w' := by
  go_enter Try.func80, Try.ntmps80
  go_wp2_with (first | (go_at_call 51; with_reducible refine (hold_any _ _ _ _).mono ?_; rintro e w1 ⟨rfl, rfl⟩))
  go_ret
  exact ⟨rfl, by go_grown⟩

set_option maxHeartbeats 1000000 in
theorem set_y3 (r : OpD) (mk ct : Value) (n : NodeD) (vi vw vb : Value) (W : World) (a1 : holdB r.k1 r.k2 n.k = true) (a2 : holdB r.s1 r.s2 n.stride = true) (a3 : holdB r.p1 r.p2 n.pad = true) (a4 : holdB r.o1 r.o2 n.out = true) (c1 : 0 < r.k2) (c2 : decide (n.k ≤ n.pad) = false) (d : r.resh = false) (z1 : (n.th == 0) = true) (z2 : (n.tw == 0) = true) (z3 : (n.tc == 0) = false) :
    Calls Try.prog 80 #[.agg #[.int .i64 r.vals, .int .i64 r.k1, .int .i64 r.k2, .int .i64 r.s1, .int .i64 r.s2, .int .i64 r.p1, .int .i64 r.p2, .int .i64 r.o1, .int .i64 r.o2, .bool r.resh, .bool r.keeps, mk, ct], .agg #[.int .i64 n.op, vi, .int .i64 n.k, .int .i64 n.stride, .int .i64 n.pad, .int .i64 n.out, .int .i64 n.mul, .int .i64 n.shift, .int .i64 n.zero, .int .i64 n.th, .int .i64 n.tw, .int .i64 n.tc, vw, vb]] W fun e w' => e = .returned (.bool false) ∧ Grown W w' := by
  go_enter Try.func80, Try.ntmps80
  go_wp2_with (first | (go_at_call 51; with_reducible refine (hold_any _ _ _ _).mono ?_; rintro e w1 ⟨rfl, rfl⟩))
  go_ret
  exact ⟨rfl, by go_grown⟩

set_option maxHeartbeats 1000000 in
theorem set_nr (r : OpD) (mk ct : Value) (n : NodeD) (vi vw vb : Value) (W : World) (a1 : holdB r.k1 r.k2 n.k = true) (a2 : holdB r.s1 r.s2 n.stride = true) (a3 : holdB r.p1 r.p2 n.pad = true) (a4 : holdB r.o1 r.o2 n.out = true) (c1 : r.k2 ≤ 0) (d : r.resh = true) :
    Calls Try.prog 80 #[.agg #[.int .i64 r.vals, .int .i64 r.k1, .int .i64 r.k2, .int .i64 r.s1, .int .i64 r.s2, .int .i64 r.p1, .int .i64 r.p2, .int .i64 r.o1, .int .i64 r.o2, .bool r.resh, .bool r.keeps, mk, ct], .agg #[.int .i64 n.op, vi, .int .i64 n.k, .int .i64 n.stride, .int .i64 n.pad, .int .i64 n.out, .int .i64 n.mul, .int .i64 n.shift, .int .i64 n.zero, .int .i64 n.th, .int .i64 n.tw, .int .i64 n.tc, vw, vb]] W fun e w' => e = .returned (.bool true) ∧ Grown W w' := by
  go_enter Try.func80, Try.ntmps80
  go_wp2_with (first | (go_at_call 51; with_reducible refine (hold_any _ _ _ _).mono ?_; rintro e w1 ⟨rfl, rfl⟩))
  go_ret
  exact ⟨rfl, by go_grown⟩

set_option maxHeartbeats 1000000 in
theorem set_nz (r : OpD) (mk ct : Value) (n : NodeD) (vi vw vb : Value) (W : World) (a1 : holdB r.k1 r.k2 n.k = true) (a2 : holdB r.s1 r.s2 n.stride = true) (a3 : holdB r.p1 r.p2 n.pad = true) (a4 : holdB r.o1 r.o2 n.out = true) (c1 : r.k2 ≤ 0) (d : r.resh = false) (z1 : (n.th == 0) = true) (z2 : (n.tw == 0) = true) (z3 : (n.tc == 0) = true) :
    Calls Try.prog 80 #[.agg #[.int .i64 r.vals, .int .i64 r.k1, .int .i64 r.k2, .int .i64 r.s1, .int .i64 r.s2, .int .i64 r.p1, .int .i64 r.p2, .int .i64 r.o1, .int .i64 r.o2, .bool r.resh, .bool r.keeps, mk, ct], .agg #[.int .i64 n.op, vi, .int .i64 n.k, .int .i64 n.stride, .int .i64 n.pad, .int .i64 n.out, .int .i64 n.mul, .int .i64 n.shift, .int .i64 n.zero, .int .i64 n.th, .int .i64 n.tw, .int .i64 n.tc, vw, vb]] W fun e w' => e = .returned (.bool true) ∧ Grown W w' := by
  go_enter Try.func80, Try.ntmps80
  go_wp2_with (first | (go_at_call 51; with_reducible refine (hold_any _ _ _ _).mono ?_; rintro e w1 ⟨rfl, rfl⟩))
  go_ret
  exact ⟨rfl, by go_grown⟩

set_option maxHeartbeats 1000000 in
theorem set_n1 (r : OpD) (mk ct : Value) (n : NodeD) (vi vw vb : Value) (W : World) (a1 : holdB r.k1 r.k2 n.k = true) (a2 : holdB r.s1 r.s2 n.stride = true) (a3 : holdB r.p1 r.p2 n.pad = true) (a4 : holdB r.o1 r.o2 n.out = true) (c1 : r.k2 ≤ 0) (d : r.resh = false) (z1 : (n.th == 0) = false) :
    Calls Try.prog 80 #[.agg #[.int .i64 r.vals, .int .i64 r.k1, .int .i64 r.k2, .int .i64 r.s1, .int .i64 r.s2, .int .i64 r.p1, .int .i64 r.p2, .int .i64 r.o1, .int .i64 r.o2, .bool r.resh, .bool r.keeps, mk, ct], .agg #[.int .i64 n.op, vi, .int .i64 n.k, .int .i64 n.stride, .int .i64 n.pad, .int .i64 n.out, .int .i64 n.mul, .int .i64 n.shift, .int .i64 n.zero, .int .i64 n.th, .int .i64 n.tw, .int .i64 n.tc, vw, vb]] W fun e w' => e = .returned (.bool false) ∧ Grown W w' := by
  go_enter Try.func80, Try.ntmps80
  go_wp2_with (first | (go_at_call 51; with_reducible refine (hold_any _ _ _ _).mono ?_; rintro e w1 ⟨rfl, rfl⟩))
  go_ret
  exact ⟨rfl, by go_grown⟩

set_option maxHeartbeats 1000000 in
theorem set_n2 (r : OpD) (mk ct : Value) (n : NodeD) (vi vw vb : Value) (W : World) (a1 : holdB r.k1 r.k2 n.k = true) (a2 : holdB r.s1 r.s2 n.stride = true) (a3 : holdB r.p1 r.p2 n.pad = true) (a4 : holdB r.o1 r.o2 n.out = true) (c1 : r.k2 ≤ 0) (d : r.resh = false) (z1 : (n.th == 0) = true) (z2 : (n.tw == 0) = false) :
    Calls Try.prog 80 #[.agg #[.int .i64 r.vals, .int .i64 r.k1, .int .i64 r.k2, .int .i64 r.s1, .int .i64 r.s2, .int .i64 r.p1, .int .i64 r.p2, .int .i64 r.o1, .int .i64 r.o2, .bool r.resh, .bool r.keeps, mk, ct], .agg #[.int .i64 n.op, vi, .int .i64 n.k, .int .i64 n.stride, .int .i64 n.pad, .int .i64 n.out, .int .i64 n.mul, .int .i64 n.shift, .int .i64 n.zero, .int .i64 n.th, .int .i64 n.tw, .int .i64 n.tc, vw, vb]] W fun e w' => e = .returned (.bool false) ∧ Grown W w' := by
  go_enter Try.func80, Try.ntmps80
  go_wp2_with (first | (go_at_call 51; with_reducible refine (hold_any _ _ _ _).mono ?_; rintro e w1 ⟨rfl, rfl⟩))
  go_ret
  exact ⟨rfl, by go_grown⟩

set_option maxHeartbeats 1000000 in
theorem set_n3 (r : OpD) (mk ct : Value) (n : NodeD) (vi vw vb : Value) (W : World) (a1 : holdB r.k1 r.k2 n.k = true) (a2 : holdB r.s1 r.s2 n.stride = true) (a3 : holdB r.p1 r.p2 n.pad = true) (a4 : holdB r.o1 r.o2 n.out = true) (c1 : r.k2 ≤ 0) (d : r.resh = false) (z1 : (n.th == 0) = true) (z2 : (n.tw == 0) = true) (z3 : (n.tc == 0) = false) :
    Calls Try.prog 80 #[.agg #[.int .i64 r.vals, .int .i64 r.k1, .int .i64 r.k2, .int .i64 r.s1, .int .i64 r.s2, .int .i64 r.p1, .int .i64 r.p2, .int .i64 r.o1, .int .i64 r.o2, .bool r.resh, .bool r.keeps, mk, ct], .agg #[.int .i64 n.op, vi, .int .i64 n.k, .int .i64 n.stride, .int .i64 n.pad, .int .i64 n.out, .int .i64 n.mul, .int .i64 n.shift, .int .i64 n.zero, .int .i64 n.th, .int .i64 n.tw, .int .i64 n.tc, vw, vb]] W fun e w' => e = .returned (.bool false) ∧ Grown W w' := by
  go_enter Try.func80, Try.ntmps80
  go_wp2_with (first | (go_at_call 51; with_reducible refine (hold_any _ _ _ _).mono ?_; rintro e w1 ⟨rfl, rfl⟩))
  go_ret
  exact ⟨rfl, by go_grown⟩

set_option maxHeartbeats 2000000 in
theorem set_any (r : OpD) (mk ct : Value) (n : NodeD) (vi vw vb : Value) (W : World) (t : Bool) (ht : Hid (t = true ↔ setP r n)) :
    Calls Try.prog 80 #[.agg #[.int .i64 r.vals, .int .i64 r.k1, .int .i64 r.k2, .int .i64 r.s1, .int .i64 r.s2, .int .i64 r.p1, .int .i64 r.p2, .int .i64 r.o1, .int .i64 r.o2, .bool r.resh, .bool r.keeps, mk, ct], .agg #[.int .i64 n.op, vi, .int .i64 n.k, .int .i64 n.stride, .int .i64 n.pad, .int .i64 n.out, .int .i64 n.mul, .int .i64 n.shift, .int .i64 n.zero, .int .i64 n.th, .int .i64 n.tw, .int .i64 n.tc, vw, vb]] W fun e w' => e = .returned (.bool t) ∧ Grown W w' := by
  have F : ¬ setP r n → t = false := fun h => by
    cases t with
    | false => rfl
    | true => exact absurd (ht.out.mp rfl) h
  have T : setP r n → t = true := fun h => ht.out.mpr h
  cases a1 : holdB r.k1 r.k2 n.k with
  | false => rw [F (fun h => holdB_f.mp a1 h.1.1)]; exact set_k r mk ct n vi vw vb W a1
  | true =>
  cases a2 : holdB r.s1 r.s2 n.stride with
  | false => rw [F (fun h => holdB_f.mp a2 h.1.2.1)]; exact set_s r mk ct n vi vw vb W a1 a2
  | true =>
  cases a3 : holdB r.p1 r.p2 n.pad with
  | false => rw [F (fun h => holdB_f.mp a3 h.1.2.2.1)]; exact set_p r mk ct n vi vw vb W a1 a2 a3
  | true =>
  cases a4 : holdB r.o1 r.o2 n.out with
  | false => rw [F (fun h => holdB_f.mp a4 h.1.2.2.2)]; exact set_o r mk ct n vi vw vb W a1 a2 a3 a4
  | true =>
  have AA : ((r.k1 ≤ n.k ∧ n.k ≤ r.k2) ∧ (r.s1 ≤ n.stride ∧ n.stride ≤ r.s2) ∧ (r.p1 ≤ n.pad ∧ n.pad ≤ r.p2) ∧ (r.o1 ≤ n.out ∧ n.out ≤ r.o2)) := ⟨holdB_t.mp a1, holdB_t.mp a2, holdB_t.mp a3, holdB_t.mp a4⟩
  have zz : ∀ (x : Int), (x == 0) = true → x = 0 := fun x h => by simpa using h
  have nz : ∀ (x : Int), (x == 0) = false → ¬ x = 0 := fun x h => by simpa using h
  by_cases c1 : 0 < r.k2
  · by_cases c2 : n.k ≤ n.pad
    · rw [F (fun h => h.2.1 ⟨c1, c2⟩)]; exact set_w r mk ct n vi vw vb W a1 a2 a3 a4 c1 (decide_eq_true c2)
    · have NW : ¬ (0 < r.k2 ∧ n.k ≤ n.pad) := fun h => c2 h.2
      have c3 : decide (n.k ≤ n.pad) = false := decide_eq_false c2
      rcases Bool.eq_false_or_eq_true r.resh with d | d
      · rw [T ⟨AA, NW, .inl d⟩]; exact set_yr r mk ct n vi vw vb W a1 a2 a3 a4 c1 c3 d
      ·
        have D : ∀ {p : Prop}, (r.resh = true ∨ p) → p := fun h => h.resolve_left (by rw [d]; decide)
        cases z1 : (n.th == 0) with
        | false => rw [F (fun h => nz _ z1 (D h.2.2).1)]; exact set_y1 r mk ct n vi vw vb W a1 a2 a3 a4 c1 c3 d z1
        | true =>
        cases z2 : (n.tw == 0) with
        | false => rw [F (fun h => nz _ z2 (D h.2.2).2.1)]; exact set_y2 r mk ct n vi vw vb W a1 a2 a3 a4 c1 c3 d z1 z2
        | true =>
        cases z3 : (n.tc == 0) with
        | false => rw [F (fun h => nz _ z3 (D h.2.2).2.2)]; exact set_y3 r mk ct n vi vw vb W a1 a2 a3 a4 c1 c3 d z1 z2 z3
        | true => rw [T ⟨AA, NW, .inr ⟨zz _ z1, zz _ z2, zz _ z3⟩⟩]; exact set_yz r mk ct n vi vw vb W a1 a2 a3 a4 c1 c3 d z1 z2 z3
  · have NW : ¬ (0 < r.k2 ∧ n.k ≤ n.pad) := fun h => c1 h.1
    have c3 : r.k2 ≤ 0 := by omega
    rcases Bool.eq_false_or_eq_true r.resh with d | d
    · rw [T ⟨AA, NW, .inl d⟩]; exact set_nr r mk ct n vi vw vb W a1 a2 a3 a4 c3 d
    ·
      have D : ∀ {p : Prop}, (r.resh = true ∨ p) → p := fun h => h.resolve_left (by rw [d]; decide)
      cases z1 : (n.th == 0) with
      | false => rw [F (fun h => nz _ z1 (D h.2.2).1)]; exact set_n1 r mk ct n vi vw vb W a1 a2 a3 a4 c3 d z1
      | true =>
      cases z2 : (n.tw == 0) with
      | false => rw [F (fun h => nz _ z2 (D h.2.2).2.1)]; exact set_n2 r mk ct n vi vw vb W a1 a2 a3 a4 c3 d z1 z2
      | true =>
      cases z3 : (n.tc == 0) with
      | false => rw [F (fun h => nz _ z3 (D h.2.2).2.2)]; exact set_n3 r mk ct n vi vw vb W a1 a2 a3 a4 c3 d z1 z2 z3
      | true => rw [T ⟨AA, NW, .inr ⟨zz _ z1, zz _ z2, zz _ z3⟩⟩]; exact set_nz r mk ct n vi vw vb W a1 a2 a3 a4 c3 d z1 z2 z3
end Go.Proofs.Ytgbedoffgahhaaa
