/- The reference of layer 3: many. -/
import Derived.Test.YtgbedoffgahhaaaR3A
import Derived.Test.YtgbedoffgahhaaaG5
import Derived.Deep.DeepCutAuto
namespace Go.Proofs.Ytgbedoffgahhaaa
open Go.ChangeShapes Go.WideShapes Go.ChangeAt Go.RowKit
set_option maxRecDepth 20000
set_option linter.unusedVariables false

set_option maxHeartbeats 4000000 in
theorem many_1 (n : NodeD) (vi vw vb : Value) (x : ValD) (W : World) (k1 : 1 ≤ n.k) (k2 : n.k ≤ 3) (c1 : 1 ≤ x.c) (c2 : x.c ≤ 8) (o1 : 1 ≤ n.out) (o2 : n.out ≤ 8) (d1 : (n.op == 1) = true) :
    Calls Try.prog 33 #[.agg #[.int .i64 n.op, vi, .int .i64 n.k, .int .i64 n.stride, .int .i64 n.pad, .int .i64 n.out, .int .i64 n.mul, .int .i64 n.shift, .int .i64 n.zero, .int .i64 n.th, .int .i64 n.tw, .int .i64 n.tc, vw, vb], .agg #[.int .i64 x.h, .int .i64 x.w, .int .i64 x.c]] W fun e w' => e = .returned (.tuple #[.int .i64 (n.k * n.k * x.c * n.out), .int .i64 n.out]) ∧ Grown W w' := by
  obtain ⟨m1, m2⟩ := mul_bd k1 k2 k1 k2
  obtain ⟨m3, m4⟩ := mul_bd m1 m2 c1 c2
  obtain ⟨m5, m6⟩ := mul_bd m3 m4 o1 o2
  have e0 : IntKind.i64.wrap (n.k * n.k) = n.k * n.k := IntWalk.i64_in _ (by omega)
  have e1 : IntKind.i64.wrap (n.k * n.k * x.c) = n.k * n.k * x.c := IntWalk.i64_in _ (by omega)
  have e2 : IntKind.i64.wrap (n.k * n.k * x.c * n.out) = n.k * n.k * x.c * n.out := IntWalk.i64_in _ (by omega)
  clear m1 m2 m3 m4 m5 m6
  go_enter Try.func33, Try.ntmps33
  go_upto_region 1 with fail
  refine opq (fun w' => (∀ o : Nat, w'.cell? ⟨W.heap.size, o, none⟩ = (#[.int .i64 n.op, vi, .int .i64 n.k, .int .i64 n.stride, .int .i64 n.pad, .int .i64 n.out, .int .i64 n.mul, .int .i64 n.shift, .int .i64 n.zero, .int .i64 n.th, .int .i64 n.tw, .int .i64 n.tc, vw, vb] : Array Value)[o]?) ∧ (∀ o : Nat, w'.cell? ⟨W.heap.size + 1, o, none⟩ = (#[.int .i64 x.h, .int .i64 x.w, .int .i64 x.c] : Array Value)[o]?) ∧ Grown W w') kLaid ?_
  rintro W1 ⟨b1, b2, g1⟩
  go_upto_region 3 with fail
  go_quiet (fail)
  go_wp2_with fail
  go_ret2
  exact ⟨rfl, by (exact kKeep)⟩

set_option maxHeartbeats 4000000 in
theorem many_2 (n : NodeD) (vi vw vb : Value) (x : ValD) (W : World) (k1 : 1 ≤ n.k) (k2 : n.k ≤ 3) (c1 : 1 ≤ x.c) (c2 : x.c ≤ 8) (d1 : (n.op == 1) = false) (d2 : (n.op == 2) = true) :
    Calls Try.prog 33 #[.agg #[.int .i64 n.op, vi, .int .i64 n.k, .int .i64 n.stride, .int .i64 n.pad, .int .i64 n.out, .int .i64 n.mul, .int .i64 n.shift, .int .i64 n.zero, .int .i64 n.th, .int .i64 n.tw, .int .i64 n.tc, vw, vb], .agg #[.int .i64 x.h, .int .i64 x.w, .int .i64 x.c]] W fun e w' => e = .returned (.tuple #[.int .i64 (n.k * n.k * x.c), .int .i64 x.c]) ∧ Grown W w' := by
  obtain ⟨m1, m2⟩ := mul_bd k1 k2 k1 k2
  obtain ⟨m3, m4⟩ := mul_bd m1 m2 c1 c2
  have e0 : IntKind.i64.wrap (n.k * n.k) = n.k * n.k := IntWalk.i64_in _ (by omega)
  have e1 : IntKind.i64.wrap (n.k * n.k * x.c) = n.k * n.k * x.c := IntWalk.i64_in _ (by omega)
  clear m1 m2 m3 m4
  go_enter Try.func33, Try.ntmps33
  go_upto_region 1 with fail
  refine opq (fun w' => (∀ o : Nat, w'.cell? ⟨W.heap.size, o, none⟩ = (#[.int .i64 n.op, vi, .int .i64 n.k, .int .i64 n.stride, .int .i64 n.pad, .int .i64 n.out, .int .i64 n.mul, .int .i64 n.shift, .int .i64 n.zero, .int .i64 n.th, .int .i64 n.tw, .int .i64 n.tc, vw, vb] : Array Value)[o]?) ∧ (∀ o : Nat, w'.cell? ⟨W.heap.size + 1, o, none⟩ = (#[.int .i64 x.h, .int .i64 x.w, .int .i64 x.c] : Array Value)[o]?) ∧ Grown W w') kLaid ?_
  rintro W1 ⟨b1, b2, g1⟩
  go_upto_region 5 with fail
  go_quiet (fail)
  go_wp2_with fail
  go_ret2
  exact ⟨rfl, by (exact kKeep)⟩

set_option maxHeartbeats 4000000 in
theorem many_3 (n : NodeD) (vi vw vb : Value) (x : ValD) (W : World) (q : Int) (hq : Hid (q = sizeI x.h x.w x.c)) (q1 : 1 ≤ q) (q2 : q ≤ 2048) (o1 : 1 ≤ n.out) (o2 : n.out ≤ 8) (d1 : (n.op == 1) = false) (d2 : (n.op == 2) = false) (d3 : (n.op == 3) = true) :
    Calls Try.prog 33 #[.agg #[.int .i64 n.op, vi, .int .i64 n.k, .int .i64 n.stride, .int .i64 n.pad, .int .i64 n.out, .int .i64 n.mul, .int .i64 n.shift, .int .i64 n.zero, .int .i64 n.th, .int .i64 n.tw, .int .i64 n.tc, vw, vb], .agg #[.int .i64 x.h, .int .i64 x.w, .int .i64 x.c]] W fun e w' => e = .returned (.tuple #[.int .i64 (q * n.out), .int .i64 n.out]) ∧ Grown W w' := by
  obtain ⟨m5, m6⟩ := mul_bd q1 q2 o1 o2
  have e2 : IntKind.i64.wrap (q * n.out) = q * n.out := IntWalk.i64_in _ (by omega)
  clear m5 m6
  go_enter Try.func33, Try.ntmps33
  go_upto_region 1 with fail
  refine opq (fun w' => (∀ o : Nat, w'.cell? ⟨W.heap.size, o, none⟩ = (#[.int .i64 n.op, vi, .int .i64 n.k, .int .i64 n.stride, .int .i64 n.pad, .int .i64 n.out, .int .i64 n.mul, .int .i64 n.shift, .int .i64 n.zero, .int .i64 n.th, .int .i64 n.tw, .int .i64 n.tc, vw, vb] : Array Value)[o]?) ∧ (∀ o : Nat, w'.cell? ⟨W.heap.size + 1, o, none⟩ = (#[.int .i64 x.h, .int .i64 x.w, .int .i64 x.c] : Array Value)[o]?) ∧ Grown W w' ∧ W.heap.size + 2 ≤ w'.heap.size) kLaid ?_
  rintro W1 ⟨b1, b2, g1, z1⟩
  go_upto_region 7 with fail
  go_region_held3 (fun w' => (∀ o : Nat, w'.cell? ⟨W.heap.size, o, none⟩ = (#[.int .i64 n.op, vi, .int .i64 n.k, .int .i64 n.stride, .int .i64 n.pad, .int .i64 n.out, .int .i64 n.mul, .int .i64 n.shift, .int .i64 n.zero, .int .i64 n.th, .int .i64 n.tw, .int .i64 n.tc, vw, vb] : Array Value)[o]?) ∧ (∀ o : Nat, w'.cell? ⟨W.heap.size + 1, o, none⟩ = (#[.int .i64 x.h, .int .i64 x.w, .int .i64 x.c] : Array Value)[o]?) ∧ Grown W w' ∧ W.heap.size + 2 ≤ w'.heap.size) (exact kKeep) (first | (go_at_call 16; with_reducible refine (rsize_any x.h x.w x.c q _ hq).mono ?_; rintro e w1 ⟨rfl, g⟩))
  all_goals
    go_wp2_with fail
    go_split_ands
    go_ret2
    exact ⟨rfl, by (exact kKeep)⟩

set_option maxHeartbeats 4000000 in
theorem many_12 (n : NodeD) (vi vw vb : Value) (x : ValD) (W : World) (d1 : (n.op == 1) = false) (d2 : (n.op == 2) = false) (d3 : (n.op == 3) = false) (d12 : (n.op == 12) = true) :
    Calls Try.prog 33 #[.agg #[.int .i64 n.op, vi, .int .i64 n.k, .int .i64 n.stride, .int .i64 n.pad, .int .i64 n.out, .int .i64 n.mul, .int .i64 n.shift, .int .i64 n.zero, .int .i64 n.th, .int .i64 n.tw, .int .i64 n.tc, vw, vb], .agg #[.int .i64 x.h, .int .i64 x.w, .int .i64 x.c]] W fun e w' => e = .returned (.tuple #[.int .i64 256, .int .i64 0]) ∧ Grown W w' := by
  go_enter Try.func33, Try.ntmps33
  go_upto_region 1 with fail
  refine opq (fun w' => (∀ o : Nat, w'.cell? ⟨W.heap.size, o, none⟩ = (#[.int .i64 n.op, vi, .int .i64 n.k, .int .i64 n.stride, .int .i64 n.pad, .int .i64 n.out, .int .i64 n.mul, .int .i64 n.shift, .int .i64 n.zero, .int .i64 n.th, .int .i64 n.tw, .int .i64 n.tc, vw, vb] : Array Value)[o]?) ∧ (∀ o : Nat, w'.cell? ⟨W.heap.size + 1, o, none⟩ = (#[.int .i64 x.h, .int .i64 x.w, .int .i64 x.c] : Array Value)[o]?) ∧ Grown W w') kLaid ?_
  rintro W1 ⟨b1, b2, g1⟩
  go_wp2_with fail
  go_ret2
  exact ⟨rfl, by (exact kKeep)⟩

set_option maxHeartbeats 4000000 in
theorem many_0 (n : NodeD) (vi vw vb : Value) (x : ValD) (W : World) (d1 : (n.op == 1) = false) (d2 : (n.op == 2) = false) (d3 : (n.op == 3) = false) (d12 : (n.op == 12) = false) :
    Calls Try.prog 33 #[.agg #[.int .i64 n.op, vi, .int .i64 n.k, .int .i64 n.stride, .int .i64 n.pad, .int .i64 n.out, .int .i64 n.mul, .int .i64 n.shift, .int .i64 n.zero, .int .i64 n.th, .int .i64 n.tw, .int .i64 n.tc, vw, vb], .agg #[.int .i64 x.h, .int .i64 x.w, .int .i64 x.c]] W fun e w' => e = .returned (.tuple #[.int .i64 0, .int .i64 0]) ∧ Grown W w' := by
  go_enter Try.func33, Try.ntmps33
  go_upto_region 1 with fail
  refine opq (fun w' => (∀ o : Nat, w'.cell? ⟨W.heap.size, o, none⟩ = (#[.int .i64 n.op, vi, .int .i64 n.k, .int .i64 n.stride, .int .i64 n.pad, .int .i64 n.out, .int .i64 n.mul, .int .i64 n.shift, .int .i64 n.zero, .int .i64 n.th, .int .i64 n.tw, .int .i64 n.tc, vw, vb] : Array Value)[o]?) ∧ (∀ o : Nat, w'.cell? ⟨W.heap.size + 1, o, none⟩ = (#[.int .i64 x.h, .int .i64 x.w, .int .i64 x.c] : Array Value)[o]?) ∧ Grown W w') kLaid ?_
  rintro W1 ⟨b1, b2, g1⟩
  go_wp2_with fail
  go_ret2
  exact ⟨rfl, by (exact kKeep)⟩
end Go.Proofs.Ytgbedoffgahhaaa
