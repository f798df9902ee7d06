/- The reference of layer 3: made. -/
import Derived.Test.YtgbedoffgahhaaaR3A
import Derived.Test.YtgbedoffgahhaaaG5
import Derived.Deep.DeepCutAuto
namespace Go.Proofs.Ytgbedoffgahhaaa
open Go.ChangeShapes Go.WideShapes Go.ChangeAt Go.RowKit
set_option maxRecDepth 20000
set_option linter.unusedVariables false

theorem bool_of1 (p : Prop) : ∃ t : Bool, (t = true ↔ p) := by
  rcases Classical.em p with h | h
  · exact ⟨true, by simp [h]⟩
  · exact ⟨false, by simp [h]⟩

set_option maxHeartbeats 4000000 in
theorem made_1 (n : NodeD) (vi vw vb : Value) (x : ValD) (b off len cap : Nat) (W : World) (h0 : 0 < len) (h1 : len ≤ cap) (hbb : b < W.heap.size) (hx : ValAt W b off x) (d1 : (n.op == 1) = true) (p q : Int) (hp : Hid (p = outI x.h n.k n.stride n.pad)) (hq : Hid (q = outI x.w n.k n.stride n.pad)) :
    Calls Try.prog 32 #[.agg #[.int .i64 n.op, vi, .int .i64 n.k, .int .i64 n.stride, .int .i64 n.pad, .int .i64 n.out, .int .i64 n.mul, .int .i64 n.shift, .int .i64 n.zero, .int .i64 n.th, .int .i64 n.tw, .int .i64 n.tc, vw, vb], .slice (some ⟨b, off, none⟩) len cap] W fun e w' => e = .returned (.agg #[.int .i64 p, .int .i64 q, .int .i64 n.out]) ∧ Grown W w' := by
  obtain ⟨x1, x2, x3, x4⟩ := hx
  have j1 : (0 : Int) ≤ 0 := by omega
  have j2 : (0 : Int) < (len : Int) := by omega
  go_enter Try.func32, Try.ntmps32
  go_upto_region 2 with fail
  refine opq (fun w' => (∀ o : Nat, w'.cell? ⟨W.heap.size, o, none⟩ = (#[.int .i64 n.op, vi, .int .i64 n.k, .int .i64 n.stride, .int .i64 n.pad, .int .i64 n.out, .int .i64 n.mul, .int .i64 n.shift, .int .i64 n.zero, .int .i64 n.th, .int .i64 n.tw, .int .i64 n.tc, vw, vb] : Array Value)[o]?) ∧ (∀ o : Nat, w'.cell? ⟨W.heap.size + 1, o, none⟩ = (#[.int .i64 0, .int .i64 0, .int .i64 0] : Array Value)[o]?) ∧ (∀ o : Nat, w'.cell? ⟨W.heap.size + 2, o, none⟩ = (#[.int .i64 x.h, .int .i64 x.w, .int .i64 x.c] : Array Value)[o]?) ∧ (∀ o : Nat, w'.frozen? ⟨W.heap.size + 1, o, none⟩ = false) ∧ Grown W w' ∧ W.heap.size + 3 ≤ w'.heap.size) kLaid ?_
  rintro W1 ⟨b1, b2, b3, f1, g1, z1⟩
  clear x1 x2 x3 x4 j1 j2
  have i0 := has_box (o := 0) b2 (by decide)
  have i1 := has_box (o := 1) b2 (by decide)
  have i2 := has_box (o := 2) b2 (by decide)
  clear b2
  go_upto_region 10 with fail
  go_region_held3 (fun w' => (∀ o : Nat, w'.cell? ⟨W.heap.size, o, none⟩ = (#[.int .i64 n.op, vi, .int .i64 n.k, .int .i64 n.stride, .int .i64 n.pad, .int .i64 n.out, .int .i64 n.mul, .int .i64 n.shift, .int .i64 n.zero, .int .i64 n.th, .int .i64 n.tw, .int .i64 n.tc, vw, vb] : Array Value)[o]?) ∧ (w'.cell? ⟨W.heap.size + 1, 0, none⟩ = some (rd w' (W.heap.size + 1) 0) ∧ w'.cell? ⟨W.heap.size + 1, 1, none⟩ = some (rd w' (W.heap.size + 1) 1) ∧ w'.cell? ⟨W.heap.size + 1, 2, none⟩ = some (rd w' (W.heap.size + 1) 2)) ∧ (∀ o : Nat, w'.cell? ⟨W.heap.size + 2, o, none⟩ = (#[.int .i64 x.h, .int .i64 x.w, .int .i64 x.c] : Array Value)[o]?) ∧ (∀ o : Nat, w'.frozen? ⟨W.heap.size + 1, o, none⟩ = false) ∧ Grown W w' ∧ W.heap.size + 3 ≤ w'.heap.size) (exact kKeep)
    (first | (go_at_call 46; with_reducible refine (rout_any x.h n.k n.stride n.pad p _ hp).mono ?_; rintro e w1 ⟨rfl, g⟩) | (go_at_call 46; with_reducible refine (rout_any x.w n.k n.stride n.pad q _ hq).mono ?_; rintro e w1 ⟨rfl, g⟩))
  all_goals
    go_wp2_with fail
    go_split_ands
    have S3 := set3 (by with_reducible assumption) (by with_reducible assumption) (by with_reducible assumption)
    exact bodyPost_ret (v := .agg #[.int .i64 p, .int .i64 q, .int .i64 n.out]) (by simp [results, Try.results32, go_sem, S3.1, S3.2.1, S3.2.2]) rfl ⟨rfl, by with_reducible assumption⟩

set_option maxHeartbeats 4000000 in
theorem made_2 (n : NodeD) (vi vw vb : Value) (x : ValD) (b off len cap : Nat) (W : World) (h0 : 0 < len) (h1 : len ≤ cap) (hbb : b < W.heap.size) (hx : ValAt W b off x) (d1 : (n.op == 1) = false) (d2 : (n.op == 2) = true) (p q : Int) (hp : Hid (p = outI x.h n.k n.stride n.pad)) (hq : Hid (q = outI x.w n.k n.stride n.pad)) :
    Calls Try.prog 32 #[.agg #[.int .i64 n.op, vi, .int .i64 n.k, .int .i64 n.stride, .int .i64 n.pad, .int .i64 n.out, .int .i64 n.mul, .int .i64 n.shift, .int .i64 n.zero, .int .i64 n.th, .int .i64 n.tw, .int .i64 n.tc, vw, vb], .slice (some ⟨b, off, none⟩) len cap] W fun e w' => e = .returned (.agg #[.int .i64 p, .int .i64 q, .int .i64 x.c]) ∧ Grown W w' := by
  obtain ⟨x1, x2, x3, x4⟩ := hx
  have j1 : (0 : Int) ≤ 0 := by omega
  have j2 : (0 : Int) < (len : Int) := by omega
  go_enter Try.func32, Try.ntmps32
  go_upto_region 2 with fail
  refine opq (fun w' => (∀ o : Nat, w'.cell? ⟨W.heap.size, o, none⟩ = (#[.int .i64 n.op, vi, .int .i64 n.k, .int .i64 n.stride, .int .i64 n.pad, .int .i64 n.out, .int .i64 n.mul, .int .i64 n.shift, .int .i64 n.zero, .int .i64 n.th, .int .i64 n.tw, .int .i64 n.tc, vw, vb] : Array Value)[o]?) ∧ (∀ o : Nat, w'.cell? ⟨W.heap.size + 1, o, none⟩ = (#[.int .i64 0, .int .i64 0, .int .i64 0] : Array Value)[o]?) ∧ (∀ o : Nat, w'.cell? ⟨W.heap.size + 2, o, none⟩ = (#[.int .i64 x.h, .int .i64 x.w, .int .i64 x.c] : Array Value)[o]?) ∧ (∀ o : Nat, w'.frozen? ⟨W.heap.size + 1, o, none⟩ = false) ∧ Grown W w' ∧ W.heap.size + 3 ≤ w'.heap.size) kLaid ?_
  rintro W1 ⟨b1, b2, b3, f1, g1, z1⟩
  clear x1 x2 x3 x4 j1 j2
  have i0 := has_box (o := 0) b2 (by decide)
  have i1 := has_box (o := 1) b2 (by decide)
  have i2 := has_box (o := 2) b2 (by decide)
  clear b2
  go_upto_region 10 with fail
  go_region_held3 (fun w' => (∀ o : Nat, w'.cell? ⟨W.heap.size, o, none⟩ = (#[.int .i64 n.op, vi, .int .i64 n.k, .int .i64 n.stride, .int .i64 n.pad, .int .i64 n.out, .int .i64 n.mul, .int .i64 n.shift, .int .i64 n.zero, .int .i64 n.th, .int .i64 n.tw, .int .i64 n.tc, vw, vb] : Array Value)[o]?) ∧ (w'.cell? ⟨W.heap.size + 1, 0, none⟩ = some (rd w' (W.heap.size + 1) 0) ∧ w'.cell? ⟨W.heap.size + 1, 1, none⟩ = some (rd w' (W.heap.size + 1) 1) ∧ w'.cell? ⟨W.heap.size + 1, 2, none⟩ = some (rd w' (W.heap.size + 1) 2)) ∧ (∀ o : Nat, w'.cell? ⟨W.heap.size + 2, o, none⟩ = (#[.int .i64 x.h, .int .i64 x.w, .int .i64 x.c] : Array Value)[o]?) ∧ (∀ o : Nat, w'.frozen? ⟨W.heap.size + 1, o, none⟩ = false) ∧ Grown W w' ∧ W.heap.size + 3 ≤ w'.heap.size) (exact kKeep)
    (first | (go_at_call 46; with_reducible refine (rout_any x.h n.k n.stride n.pad p _ hp).mono ?_; rintro e w1 ⟨rfl, g⟩) | (go_at_call 46; with_reducible refine (rout_any x.w n.k n.stride n.pad q _ hq).mono ?_; rintro e w1 ⟨rfl, g⟩))
  all_goals
    go_wp2_with fail
    go_split_ands
    have S3 := set3 (by with_reducible assumption) (by with_reducible assumption) (by with_reducible assumption)
    exact bodyPost_ret (v := .agg #[.int .i64 p, .int .i64 q, .int .i64 x.c]) (by simp [results, Try.results32, go_sem, S3.1, S3.2.1, S3.2.2]) rfl ⟨rfl, by with_reducible assumption⟩

set_option maxHeartbeats 4000000 in
theorem made_4 (n : NodeD) (vi vw vb : Value) (x : ValD) (b off len cap : Nat) (W : World) (h0 : 0 < len) (h1 : len ≤ cap) (hbb : b < W.heap.size) (hx : ValAt W b off x) (d1 : (n.op == 1) = false) (d2 : (n.op == 2) = false) (d4 : (n.op == 4) = true) (p q : Int) (hp : Hid (p = outI x.h n.k n.stride n.pad)) (hq : Hid (q = outI x.w n.k n.stride n.pad)) :
    Calls Try.prog 32 #[.agg #[.int .i64 n.op, vi, .int .i64 n.k, .int .i64 n.stride, .int .i64 n.pad, .int .i64 n.out, .int .i64 n.mul, .int .i64 n.shift, .int .i64 n.zero, .int .i64 n.th, .int .i64 n.tw, .int .i64 n.tc, vw, vb], .slice (some ⟨b, off, none⟩) len cap] W fun e w' => e = .returned (.agg #[.int .i64 p, .int .i64 q, .int .i64 x.c]) ∧ Grown W w' := by
  obtain ⟨x1, x2, x3, x4⟩ := hx
  have j1 : (0 : Int) ≤ 0 := by omega
  have j2 : (0 : Int) < (len : Int) := by omega
  go_enter Try.func32, Try.ntmps32
  go_upto_region 2 with fail
  refine opq (fun w' => (∀ o : Nat, w'.cell? ⟨W.heap.size, o, none⟩ = (#[.int .i64 n.op, vi, .int .i64 n.k, .int .i64 n.stride, .int .i64 n.pad, .int .i64 n.out, .int .i64 n.mul, .int .i64 n.shift, .int .i64 n.zero, .int .i64 n.th, .int .i64 n.tw, .int .i64 n.tc, vw, vb] : Array Value)[o]?) ∧ (∀ o : Nat, w'.cell? ⟨W.heap.size + 1, o, none⟩ = (#[.int .i64 0, .int .i64 0, .int .i64 0] : Array Value)[o]?) ∧ (∀ o : Nat, w'.cell? ⟨W.heap.size + 2, o, none⟩ = (#[.int .i64 x.h, .int .i64 x.w, .int .i64 x.c] : Array Value)[o]?) ∧ (∀ o : Nat, w'.frozen? ⟨W.heap.size + 1, o, none⟩ = false) ∧ Grown W w' ∧ W.heap.size + 3 ≤ w'.heap.size) kLaid ?_
  rintro W1 ⟨b1, b2, b3, f1, g1, z1⟩
  clear x1 x2 x3 x4 j1 j2
  have i0 := has_box (o := 0) b2 (by decide)
  have i1 := has_box (o := 1) b2 (by decide)
  have i2 := has_box (o := 2) b2 (by decide)
  clear b2
  go_upto_region 10 with fail
  go_region_held3 (fun w' => (∀ o : Nat, w'.cell? ⟨W.heap.size, o, none⟩ = (#[.int .i64 n.op, vi, .int .i64 n.k, .int .i64 n.stride, .int .i64 n.pad, .int .i64 n.out, .int .i64 n.mul, .int .i64 n.shift, .int .i64 n.zero, .int .i64 n.th, .int .i64 n.tw, .int .i64 n.tc, vw, vb] : Array Value)[o]?) ∧ (w'.cell? ⟨W.heap.size + 1, 0, none⟩ = some (rd w' (W.heap.size + 1) 0) ∧ w'.cell? ⟨W.heap.size + 1, 1, none⟩ = some (rd w' (W.heap.size + 1) 1) ∧ w'.cell? ⟨W.heap.size + 1, 2, none⟩ = some (rd w' (W.heap.size + 1) 2)) ∧ (∀ o : Nat, w'.cell? ⟨W.heap.size + 2, o, none⟩ = (#[.int .i64 x.h, .int .i64 x.w, .int .i64 x.c] : Array Value)[o]?) ∧ (∀ o : Nat, w'.frozen? ⟨W.heap.size + 1, o, none⟩ = false) ∧ Grown W w' ∧ W.heap.size + 3 ≤ w'.heap.size) (exact kKeep)
    (first | (go_at_call 46; with_reducible refine (rout_any x.h n.k n.stride n.pad p _ hp).mono ?_; rintro e w1 ⟨rfl, g⟩) | (go_at_call 46; with_reducible refine (rout_any x.w n.k n.stride n.pad q _ hq).mono ?_; rintro e w1 ⟨rfl, g⟩))
  all_goals
    go_wp2_with fail
    go_split_ands
    have S3 := set3 (by with_reducible assumption) (by with_reducible assumption) (by with_reducible assumption)
    exact bodyPost_ret (v := .agg #[.int .i64 p, .int .i64 q, .int .i64 x.c]) (by simp [results, Try.results32, go_sem, S3.1, S3.2.1, S3.2.2]) rfl ⟨rfl, by with_reducible assumption⟩

set_option maxHeartbeats 4000000 in
theorem made_5 (n : NodeD) (vi vw vb : Value) (x : ValD) (b off len cap : Nat) (W : World) (h0 : 0 < len) (h1 : len ≤ cap) (hbb : b < W.heap.size) (hx : ValAt W b off x) (d1 : (n.op == 1) = false) (d2 : (n.op == 2) = false) (d4 : (n.op == 4) = false) (d5 : (n.op == 5) = true) (p q : Int) (hp : Hid (p = outI x.h n.k n.stride n.pad)) (hq : Hid (q = outI x.w n.k n.stride n.pad)) :
    Calls Try.prog 32 #[.agg #[.int .i64 n.op, vi, .int .i64 n.k, .int .i64 n.stride, .int .i64 n.pad, .int .i64 n.out, .int .i64 n.mul, .int .i64 n.shift, .int .i64 n.zero, .int .i64 n.th, .int .i64 n.tw, .int .i64 n.tc, vw, vb], .slice (some ⟨b, off, none⟩) len cap] W fun e w' => e = .returned (.agg #[.int .i64 p, .int .i64 q, .int .i64 x.c]) ∧ Grown W w' := by
  obtain ⟨x1, x2, x3, x4⟩ := hx
  have j1 : (0 : Int) ≤ 0 := by omega
  have j2 : (0 : Int) < (len : Int) := by omega
  go_enter Try.func32, Try.ntmps32
  go_upto_region 2 with fail
  refine opq (fun w' => (∀ o : Nat, w'.cell? ⟨W.heap.size, o, none⟩ = (#[.int .i64 n.op, vi, .int .i64 n.k, .int .i64 n.stride, .int .i64 n.pad, .int .i64 n.out, .int .i64 n.mul, .int .i64 n.shift, .int .i64 n.zero, .int .i64 n.th, .int .i64 n.tw, .int .i64 n.tc, vw, vb] : Array Value)[o]?) ∧ (∀ o : Nat, w'.cell? ⟨W.heap.size + 1, o, none⟩ = (#[.int .i64 0, .int .i64 0, .int .i64 0] : Array Value)[o]?) ∧ (∀ o : Nat, w'.cell? ⟨W.heap.size + 2, o, none⟩ = (#[.int .i64 x.h, .int .i64 x.w, .int .i64 x.c] : Array Value)[o]?) ∧ (∀ o : Nat, w'.frozen? ⟨W.heap.size + 1, o, none⟩ = false) ∧ Grown W w' ∧ W.heap.size + 3 ≤ w'.heap.size) kLaid ?_
  rintro W1 ⟨b1, b2, b3, f1, g1, z1⟩
  clear x1 x2 x3 x4 j1 j2
  have i0 := has_box (o := 0) b2 (by decide)
  have i1 := has_box (o := 1) b2 (by decide)
  have i2 := has_box (o := 2) b2 (by decide)
  clear b2
  go_upto_region 10 with fail
  go_region_held3 (fun w' => (∀ o : Nat, w'.cell? ⟨W.heap.size, o, none⟩ = (#[.int .i64 n.op, vi, .int .i64 n.k, .int .i64 n.stride, .int .i64 n.pad, .int .i64 n.out, .int .i64 n.mul, .int .i64 n.shift, .int .i64 n.zero, .int .i64 n.th, .int .i64 n.tw, .int .i64 n.tc, vw, vb] : Array Value)[o]?) ∧ (w'.cell? ⟨W.heap.size + 1, 0, none⟩ = some (rd w' (W.heap.size + 1) 0) ∧ w'.cell? ⟨W.heap.size + 1, 1, none⟩ = some (rd w' (W.heap.size + 1) 1) ∧ w'.cell? ⟨W.heap.size + 1, 2, none⟩ = some (rd w' (W.heap.size + 1) 2)) ∧ (∀ o : Nat, w'.cell? ⟨W.heap.size + 2, o, none⟩ = (#[.int .i64 x.h, .int .i64 x.w, .int .i64 x.c] : Array Value)[o]?) ∧ (∀ o : Nat, w'.frozen? ⟨W.heap.size + 1, o, none⟩ = false) ∧ Grown W w' ∧ W.heap.size + 3 ≤ w'.heap.size) (exact kKeep)
    (first | (go_at_call 46; with_reducible refine (rout_any x.h n.k n.stride n.pad p _ hp).mono ?_; rintro e w1 ⟨rfl, g⟩) | (go_at_call 46; with_reducible refine (rout_any x.w n.k n.stride n.pad q _ hq).mono ?_; rintro e w1 ⟨rfl, g⟩))
  all_goals
    go_wp2_with fail
    go_split_ands
    have S3 := set3 (by with_reducible assumption) (by with_reducible assumption) (by with_reducible assumption)
    exact bodyPost_ret (v := .agg #[.int .i64 p, .int .i64 q, .int .i64 x.c]) (by simp [results, Try.results32, go_sem, S3.1, S3.2.1, S3.2.2]) rfl ⟨rfl, by with_reducible assumption⟩

set_option maxHeartbeats 4000000 in
theorem made_3 (n : NodeD) (vi vw vb : Value) (x : ValD) (b off len cap : Nat) (W : World) (h0 : 0 < len) (h1 : len ≤ cap) (hbb : b < W.heap.size) (hx : ValAt W b off x) (d1 : (n.op == 1) = false) (d2 : (n.op == 2) = false) (d4 : (n.op == 4) = false) (d5 : (n.op == 5) = false) (d3 : (n.op == 3) = true)  :
    Calls Try.prog 32 #[.agg #[.int .i64 n.op, vi, .int .i64 n.k, .int .i64 n.stride, .int .i64 n.pad, .int .i64 n.out, .int .i64 n.mul, .int .i64 n.shift, .int .i64 n.zero, .int .i64 n.th, .int .i64 n.tw, .int .i64 n.tc, vw, vb], .slice (some ⟨b, off, none⟩) len cap] W fun e w' => e = .returned (.agg #[.int .i64 1, .int .i64 1, .int .i64 n.out]) ∧ Grown W w' := by
  obtain ⟨x1, x2, x3, x4⟩ := hx
  have j1 : (0 : Int) ≤ 0 := by omega
  have j2 : (0 : Int) < (len : Int) := by omega
  go_enter Try.func32, Try.ntmps32
  go_upto_region 2 with fail
  refine opq (fun w' => (∀ o : Nat, w'.cell? ⟨W.heap.size, o, none⟩ = (#[.int .i64 n.op, vi, .int .i64 n.k, .int .i64 n.stride, .int .i64 n.pad, .int .i64 n.out, .int .i64 n.mul, .int .i64 n.shift, .int .i64 n.zero, .int .i64 n.th, .int .i64 n.tw, .int .i64 n.tc, vw, vb] : Array Value)[o]?) ∧ (∀ o : Nat, w'.cell? ⟨W.heap.size + 1, o, none⟩ = (#[.int .i64 0, .int .i64 0, .int .i64 0] : Array Value)[o]?) ∧ (∀ o : Nat, w'.cell? ⟨W.heap.size + 2, o, none⟩ = (#[.int .i64 x.h, .int .i64 x.w, .int .i64 x.c] : Array Value)[o]?) ∧ (∀ o : Nat, w'.frozen? ⟨W.heap.size + 1, o, none⟩ = false) ∧ Grown W w' ∧ W.heap.size + 3 ≤ w'.heap.size) kLaid ?_
  rintro W1 ⟨b1, b2, b3, f1, g1, z1⟩
  clear x1 x2 x3 x4 j1 j2
  go_wp2_with fail
  exact bodyPost_ret (v := .agg #[.int .i64 1, .int .i64 1, .int .i64 n.out]) (by simp [results, Try.results32, go_sem, *]) rfl ⟨rfl, by (exact kKeep)⟩

set_option maxHeartbeats 4000000 in
theorem made_6 (n : NodeD) (vi vw vb : Value) (x y : ValD) (b off len cap : Nat) (W : World) (h0 : 1 < len) (h1 : len ≤ cap) (hbb : b < W.heap.size) (hx : ValAt W b off x) (hy : ValAt W b (off + 4) y) (d1 : (n.op == 1) = false) (d2 : (n.op == 2) = false) (d4 : (n.op == 4) = false) (d5 : (n.op == 5) = false) (d3 : (n.op == 3) = false) (d6 : (n.op == 6) = true) (t : Int × Int × Int) (ht : Hid (t = if y.h = x.h ∧ y.w = x.w ∧ y.c = x.c then (x.h, x.w, x.c) else (0, 0, 0))) :
    Calls Try.prog 32 #[.agg #[.int .i64 n.op, vi, .int .i64 n.k, .int .i64 n.stride, .int .i64 n.pad, .int .i64 n.out, .int .i64 n.mul, .int .i64 n.shift, .int .i64 n.zero, .int .i64 n.th, .int .i64 n.tw, .int .i64 n.tc, vw, vb], .slice (some ⟨b, off, none⟩) len cap] W fun e w' => e = .returned (.agg #[.int .i64 t.1, .int .i64 t.2.1, .int .i64 t.2.2]) ∧ Grown W w' := by
  obtain ⟨x1, x2, x3, x4⟩ := hx
  obtain ⟨y1, y2, y3, y4⟩ := hy
  have j3 : (1 : Int) < (len : Int) := by omega
  have j1 : (0 : Int) ≤ 0 := by omega
  have j2 : (0 : Int) < (len : Int) := by omega
  obtain ⟨tz, hz⟩ := bool_of1 (¬ (y.h = x.h ∧ y.w = x.w ∧ y.c = x.c))
  have HZ := Lib.hid hz
  clear hz
  go_enter Try.func32, Try.ntmps32
  go_upto_region 2 with fail
  refine opq (fun w' => (∀ o : Nat, w'.cell? ⟨W.heap.size, o, none⟩ = (#[.int .i64 n.op, vi, .int .i64 n.k, .int .i64 n.stride, .int .i64 n.pad, .int .i64 n.out, .int .i64 n.mul, .int .i64 n.shift, .int .i64 n.zero, .int .i64 n.th, .int .i64 n.tw, .int .i64 n.tc, vw, vb] : Array Value)[o]?) ∧ (∀ o : Nat, w'.cell? ⟨W.heap.size + 1, o, none⟩ = (#[.int .i64 0, .int .i64 0, .int .i64 0] : Array Value)[o]?) ∧ (∀ o : Nat, w'.cell? ⟨W.heap.size + 2, o, none⟩ = (#[.int .i64 x.h, .int .i64 x.w, .int .i64 x.c] : Array Value)[o]?) ∧ (∀ o : Nat, w'.frozen? ⟨W.heap.size + 1, o, none⟩ = false) ∧ Grown W w' ∧ W.heap.size + 3 ≤ w'.heap.size ∧ w'.cell? ⟨b, off + 4, none⟩ = some (.int .i64 y.h) ∧ w'.cell? ⟨b, off + 4 + 1, none⟩ = some (.int .i64 y.w) ∧ w'.cell? ⟨b, off + 4 + 2, none⟩ = some (.int .i64 y.c)) kLaid ?_
  rintro W1 ⟨b1, b2, b3, f1, g1, z1, y1, y2, y3⟩
  clear x1 x2 x3 x4 j1 j2
  go_upto_region 15 with fail
  go_cut [58] (fun c w' => c = .bool tz ∧ (∀ o : Nat, w'.cell? ⟨W.heap.size, o, none⟩ = (#[.int .i64 n.op, vi, .int .i64 n.k, .int .i64 n.stride, .int .i64 n.pad, .int .i64 n.out, .int .i64 n.mul, .int .i64 n.shift, .int .i64 n.zero, .int .i64 n.th, .int .i64 n.tw, .int .i64 n.tc, vw, vb] : Array Value)[o]?) ∧ (∀ o : Nat, w'.cell? ⟨W.heap.size + 1, o, none⟩ = (#[.int .i64 0, .int .i64 0, .int .i64 0] : Array Value)[o]?) ∧ (∀ o : Nat, w'.cell? ⟨W.heap.size + 2, o, none⟩ = (#[.int .i64 x.h, .int .i64 x.w, .int .i64 x.c] : Array Value)[o]?) ∧ (∀ o : Nat, w'.frozen? ⟨W.heap.size + 1, o, none⟩ = false) ∧ Grown W w' ∧ W.heap.size + 3 ≤ w'.heap.size)
  case first =>
    cases e1 : (y.h == x.h) with
    | false =>
      obtain rfl : tz = true := HZ.out.mpr (fun h => by rw [h.1] at e1; simp at e1)
      go_quiet (fail)
      go_wp2_with fail
      go_meet
      exact ⟨rfl, by (exact kKeep)⟩
    | true =>
      cases e2 : (y.w == x.w) with
      | false =>
        obtain rfl : tz = true := HZ.out.mpr (fun h => by rw [h.2.1] at e2; simp at e2)
        go_quiet (fail)
        go_wp2_with fail
        go_meet
        exact ⟨rfl, by (exact kKeep)⟩
      | true =>
        cases e3 : (y.c == x.c) with
        | false =>
          obtain rfl : tz = true := HZ.out.mpr (fun h => by rw [h.2.2] at e3; simp at e3)
          go_quiet (fail)
          go_wp2_with fail
          go_meet
          exact ⟨rfl, by (exact kKeep)⟩
        | true =>
          obtain rfl : tz = false := Bool.eq_false_iff.mpr (fun h => HZ.out.mp h ⟨by simpa using e1, by simpa using e2, by simpa using e3⟩)
          go_quiet (fail)
          go_wp2_with fail
          go_meet
          exact ⟨rfl, by (exact kKeep)⟩
  case rest =>
    obtain ⟨rfl, b4, b5, b6, f2, g2, z2⟩ := hcut
    clear b1 b2 b3 f1 g1 z1 y1 y2 y3 y4 j3
    have ht' := ht.out
    clear ht
    by_cases c : y.h = x.h ∧ y.w = x.w ∧ y.c = x.c
    · rw [if_pos c] at ht'
      subst ht'
      obtain rfl : tz = false := Bool.eq_false_iff.mpr (fun h => HZ.out.mp h c)
      clear c
      go_wp2_with fail
      exact bodyPost_ret (v := .agg #[.int .i64 x.h, .int .i64 x.w, .int .i64 x.c]) (by simp [results, Try.results32, go_sem, *]) rfl ⟨rfl, by (exact kKeep)⟩
    · rw [if_neg c] at ht'
      subst ht'
      obtain rfl : tz = true := HZ.out.mpr c
      clear c
      go_wp2_with fail
      exact bodyPost_ret (v := .agg #[.int .i64 0, .int .i64 0, .int .i64 0]) (by simp [results, Try.results32, go_sem, *]) rfl ⟨rfl, by (exact kKeep)⟩

set_option maxHeartbeats 4000000 in
theorem made_7 (n : NodeD) (vi vw vb : Value) (x y : ValD) (b off len cap : Nat) (W : World) (h0 : 1 < len) (h1 : len ≤ cap) (hbb : b < W.heap.size) (hx : ValAt W b off x) (hy : ValAt W b (off + 4) y) (d1 : (n.op == 1) = false) (d2 : (n.op == 2) = false) (d4 : (n.op == 4) = false) (d5 : (n.op == 5) = false) (d3 : (n.op == 3) = false) (d6 : (n.op == 6) = false) (d7 : (n.op == 7) = true) (t : Int × Int × Int) (ht : Hid (t = if y.h = x.h ∧ y.w = x.w ∧ y.c = x.c then (x.h, x.w, x.c) else (0, 0, 0))) :
    Calls Try.prog 32 #[.agg #[.int .i64 n.op, vi, .int .i64 n.k, .int .i64 n.stride, .int .i64 n.pad, .int .i64 n.out, .int .i64 n.mul, .int .i64 n.shift, .int .i64 n.zero, .int .i64 n.th, .int .i64 n.tw, .int .i64 n.tc, vw, vb], .slice (some ⟨b, off, none⟩) len cap] W fun e w' => e = .returned (.agg #[.int .i64 t.1, .int .i64 t.2.1, .int .i64 t.2.2]) ∧ Grown W w' := by
  obtain ⟨x1, x2, x3, x4⟩ := hx
  obtain ⟨y1, y2, y3, y4⟩ := hy
  have j3 : (1 : Int) < (len : Int) := by omega
  have j1 : (0 : Int) ≤ 0 := by omega
  have j2 : (0 : Int) < (len : Int) := by omega
  obtain ⟨tz, hz⟩ := bool_of1 (¬ (y.h = x.h ∧ y.w = x.w ∧ y.c = x.c))
  have HZ := Lib.hid hz
  clear hz
  go_enter Try.func32, Try.ntmps32
  go_upto_region 2 with fail
  refine opq (fun w' => (∀ o : Nat, w'.cell? ⟨W.heap.size, o, none⟩ = (#[.int .i64 n.op, vi, .int .i64 n.k, .int .i64 n.stride, .int .i64 n.pad, .int .i64 n.out, .int .i64 n.mul, .int .i64 n.shift, .int .i64 n.zero, .int .i64 n.th, .int .i64 n.tw, .int .i64 n.tc, vw, vb] : Array Value)[o]?) ∧ (∀ o : Nat, w'.cell? ⟨W.heap.size + 1, o, none⟩ = (#[.int .i64 0, .int .i64 0, .int .i64 0] : Array Value)[o]?) ∧ (∀ o : Nat, w'.cell? ⟨W.heap.size + 2, o, none⟩ = (#[.int .i64 x.h, .int .i64 x.w, .int .i64 x.c] : Array Value)[o]?) ∧ (∀ o : Nat, w'.frozen? ⟨W.heap.size + 1, o, none⟩ = false) ∧ Grown W w' ∧ W.heap.size + 3 ≤ w'.heap.size ∧ w'.cell? ⟨b, off + 4, none⟩ = some (.int .i64 y.h) ∧ w'.cell? ⟨b, off + 4 + 1, none⟩ = some (.int .i64 y.w) ∧ w'.cell? ⟨b, off + 4 + 2, none⟩ = some (.int .i64 y.c)) kLaid ?_
  rintro W1 ⟨b1, b2, b3, f1, g1, z1, y1, y2, y3⟩
  clear x1 x2 x3 x4 j1 j2
  go_upto_region 15 with fail
  go_cut [58] (fun c w' => c = .bool tz ∧ (∀ o : Nat, w'.cell? ⟨W.heap.size, o, none⟩ = (#[.int .i64 n.op, vi, .int .i64 n.k, .int .i64 n.stride, .int .i64 n.pad, .int .i64 n.out, .int .i64 n.mul, .int .i64 n.shift, .int .i64 n.zero, .int .i64 n.th, .int .i64 n.tw, .int .i64 n.tc, vw, vb] : Array Value)[o]?) ∧ (∀ o : Nat, w'.cell? ⟨W.heap.size + 1, o, none⟩ = (#[.int .i64 0, .int .i64 0, .int .i64 0] : Array Value)[o]?) ∧ (∀ o : Nat, w'.cell? ⟨W.heap.size + 2, o, none⟩ = (#[.int .i64 x.h, .int .i64 x.w, .int .i64 x.c] : Array Value)[o]?) ∧ (∀ o : Nat, w'.frozen? ⟨W.heap.size + 1, o, none⟩ = false) ∧ Grown W w' ∧ W.heap.size + 3 ≤ w'.heap.size)
  case first =>
    cases e1 : (y.h == x.h) with
    | false =>
      obtain rfl : tz = true := HZ.out.mpr (fun h => by rw [h.1] at e1; simp at e1)
      go_quiet (fail)
      go_wp2_with fail
      go_meet
      exact ⟨rfl, by (exact kKeep)⟩
    | true =>
      cases e2 : (y.w == x.w) with
      | false =>
        obtain rfl : tz = true := HZ.out.mpr (fun h => by rw [h.2.1] at e2; simp at e2)
        go_quiet (fail)
        go_wp2_with fail
        go_meet
        exact ⟨rfl, by (exact kKeep)⟩
      | true =>
        cases e3 : (y.c == x.c) with
        | false =>
          obtain rfl : tz = true := HZ.out.mpr (fun h => by rw [h.2.2] at e3; simp at e3)
          go_quiet (fail)
          go_wp2_with fail
          go_meet
          exact ⟨rfl, by (exact kKeep)⟩
        | true =>
          obtain rfl : tz = false := Bool.eq_false_iff.mpr (fun h => HZ.out.mp h ⟨by simpa using e1, by simpa using e2, by simpa using e3⟩)
          go_quiet (fail)
          go_wp2_with fail
          go_meet
          exact ⟨rfl, by (exact kKeep)⟩
  case rest =>
    obtain ⟨rfl, b4, b5, b6, f2, g2, z2⟩ := hcut
    clear b1 b2 b3 f1 g1 z1 y1 y2 y3 y4 j3
    have ht' := ht.out
    clear ht
    by_cases c : y.h = x.h ∧ y.w = x.w ∧ y.c = x.c
    · rw [if_pos c] at ht'
      subst ht'
      obtain rfl : tz = false := Bool.eq_false_iff.mpr (fun h => HZ.out.mp h c)
      clear c
      go_wp2_with fail
      exact bodyPost_ret (v := .agg #[.int .i64 x.h, .int .i64 x.w, .int .i64 x.c]) (by simp [results, Try.results32, go_sem, *]) rfl ⟨rfl, by (exact kKeep)⟩
    · rw [if_neg c] at ht'
      subst ht'
      obtain rfl : tz = true := HZ.out.mpr c
      clear c
      go_wp2_with fail
      exact bodyPost_ret (v := .agg #[.int .i64 0, .int .i64 0, .int .i64 0]) (by simp [results, Try.results32, go_sem, *]) rfl ⟨rfl, by (exact kKeep)⟩

set_option maxHeartbeats 4000000 in
theorem made_9 (n : NodeD) (vi vw vb : Value) (x : ValD) (b off len cap : Nat) (W : World) (h0 : 0 < len) (h1 : len ≤ cap) (hbb : b < W.heap.size) (hx : ValAt W b off x) (d1 : (n.op == 1) = false) (d2 : (n.op == 2) = false) (d4 : (n.op == 4) = false) (d5 : (n.op == 5) = false) (d3 : (n.op == 3) = false) (d6 : (n.op == 6) = false) (d7 : (n.op == 7) = false) (d9 : (n.op == 9) = true) (mx : mayS x.h x.w x.c) :
    Calls Try.prog 32 #[.agg #[.int .i64 n.op, vi, .int .i64 n.k, .int .i64 n.stride, .int .i64 n.pad, .int .i64 n.out, .int .i64 n.mul, .int .i64 n.shift, .int .i64 n.zero, .int .i64 n.th, .int .i64 n.tw, .int .i64 n.tc, vw, vb], .slice (some ⟨b, off, none⟩) len cap] W fun e w' => e = .returned (.agg #[.int .i64 (x.h + 2), .int .i64 (x.w + 2), .int .i64 x.c]) ∧ Grown W w' := by
  obtain ⟨x1, x2, x3, x4⟩ := hx
  have j1 : (0 : Int) ≤ 0 := by omega
  have j2 : (0 : Int) < (len : Int) := by omega
  obtain ⟨m1, m2, m3, m4, m5, m6⟩ := mx
  go_enter Try.func32, Try.ntmps32
  go_upto_region 2 with fail
  refine opq (fun w' => (∀ o : Nat, w'.cell? ⟨W.heap.size, o, none⟩ = (#[.int .i64 n.op, vi, .int .i64 n.k, .int .i64 n.stride, .int .i64 n.pad, .int .i64 n.out, .int .i64 n.mul, .int .i64 n.shift, .int .i64 n.zero, .int .i64 n.th, .int .i64 n.tw, .int .i64 n.tc, vw, vb] : Array Value)[o]?) ∧ (∀ o : Nat, w'.cell? ⟨W.heap.size + 1, o, none⟩ = (#[.int .i64 0, .int .i64 0, .int .i64 0] : Array Value)[o]?) ∧ (∀ o : Nat, w'.cell? ⟨W.heap.size + 2, o, none⟩ = (#[.int .i64 x.h, .int .i64 x.w, .int .i64 x.c] : Array Value)[o]?) ∧ (∀ o : Nat, w'.frozen? ⟨W.heap.size + 1, o, none⟩ = false) ∧ Grown W w' ∧ W.heap.size + 3 ≤ w'.heap.size) kLaid ?_
  rintro W1 ⟨b1, b2, b3, f1, g1, z1⟩
  clear x1 x2 x3 x4 j1 j2
  go_wp2_with fail
  exact bodyPost_ret (v := .agg #[.int .i64 (x.h + 2), .int .i64 (x.w + 2), .int .i64 x.c]) (by simp [results, Try.results32, go_sem, *]) rfl ⟨rfl, by (exact kKeep)⟩

set_option maxHeartbeats 4000000 in
theorem made_10 (n : NodeD) (vi vw vb : Value) (x y : ValD) (b off len cap : Nat) (W : World) (h0 : 1 < len) (h1 : len ≤ cap) (hbb : b < W.heap.size) (hx : ValAt W b off x) (hy : ValAt W b (off + 4) y) (d1 : (n.op == 1) = false) (d2 : (n.op == 2) = false) (d4 : (n.op == 4) = false) (d5 : (n.op == 5) = false) (d3 : (n.op == 3) = false) (d6 : (n.op == 6) = false) (d7 : (n.op == 7) = false) (d9 : (n.op == 9) = false) (d10 : (n.op == 10) = true) (mx : mayS x.h x.w x.c) (my : mayS y.h y.w y.c) (t : Int × Int × Int) (ht : Hid (t = if x.h = y.h ∧ x.w = y.w then (x.h, x.w, x.c + y.c) else (0, 0, 0))) :
    Calls Try.prog 32 #[.agg #[.int .i64 n.op, vi, .int .i64 n.k, .int .i64 n.stride, .int .i64 n.pad, .int .i64 n.out, .int .i64 n.mul, .int .i64 n.shift, .int .i64 n.zero, .int .i64 n.th, .int .i64 n.tw, .int .i64 n.tc, vw, vb], .slice (some ⟨b, off, none⟩) len cap] W fun e w' => e = .returned (.agg #[.int .i64 t.1, .int .i64 t.2.1, .int .i64 t.2.2]) ∧ Grown W w' := by
  obtain ⟨x1, x2, x3, x4⟩ := hx
  obtain ⟨y1, y2, y3, y4⟩ := hy
  have j3 : (1 : Int) < (len : Int) := by omega
  have j1 : (0 : Int) ≤ 0 := by omega
  have j2 : (0 : Int) < (len : Int) := by omega
  obtain ⟨_, _, _, _, m5, m6⟩ := mx
  obtain ⟨_, _, _, _, n5, n6⟩ := my
  obtain ⟨tz, hz⟩ := bool_of1 (¬ (x.h = y.h ∧ x.w = y.w))
  have HZ := Lib.hid hz
  clear hz
  go_enter Try.func32, Try.ntmps32
  go_upto_region 2 with fail
  refine opq (fun w' => (∀ o : Nat, w'.cell? ⟨W.heap.size, o, none⟩ = (#[.int .i64 n.op, vi, .int .i64 n.k, .int .i64 n.stride, .int .i64 n.pad, .int .i64 n.out, .int .i64 n.mul, .int .i64 n.shift, .int .i64 n.zero, .int .i64 n.th, .int .i64 n.tw, .int .i64 n.tc, vw, vb] : Array Value)[o]?) ∧ (∀ o : Nat, w'.cell? ⟨W.heap.size + 1, o, none⟩ = (#[.int .i64 0, .int .i64 0, .int .i64 0] : Array Value)[o]?) ∧ (∀ o : Nat, w'.cell? ⟨W.heap.size + 2, o, none⟩ = (#[.int .i64 x.h, .int .i64 x.w, .int .i64 x.c] : Array Value)[o]?) ∧ (∀ o : Nat, w'.frozen? ⟨W.heap.size + 1, o, none⟩ = false) ∧ Grown W w' ∧ W.heap.size + 3 ≤ w'.heap.size ∧ w'.cell? ⟨b, off + 4, none⟩ = some (.int .i64 y.h) ∧ w'.cell? ⟨b, off + 4 + 1, none⟩ = some (.int .i64 y.w) ∧ w'.cell? ⟨b, off + 4 + 2, none⟩ = some (.int .i64 y.c)) kLaid ?_
  rintro W1 ⟨b1, b2, b3, f1, g1, z1, y1, y2, y3⟩
  clear x1 x2 x3 x4 j1 j2
  go_upto_region 20 with fail
  go_cut [90] (fun c w' => c = .bool tz ∧ (∀ o : Nat, w'.cell? ⟨W.heap.size, o, none⟩ = (#[.int .i64 n.op, vi, .int .i64 n.k, .int .i64 n.stride, .int .i64 n.pad, .int .i64 n.out, .int .i64 n.mul, .int .i64 n.shift, .int .i64 n.zero, .int .i64 n.th, .int .i64 n.tw, .int .i64 n.tc, vw, vb] : Array Value)[o]?) ∧ (∀ o : Nat, w'.cell? ⟨W.heap.size + 1, o, none⟩ = (#[.int .i64 0, .int .i64 0, .int .i64 0] : Array Value)[o]?) ∧ (∀ o : Nat, w'.cell? ⟨W.heap.size + 2, o, none⟩ = (#[.int .i64 x.h, .int .i64 x.w, .int .i64 x.c] : Array Value)[o]?) ∧ (∀ o : Nat, w'.frozen? ⟨W.heap.size + 1, o, none⟩ = false) ∧ Grown W w' ∧ W.heap.size + 3 ≤ w'.heap.size ∧ w'.cell? ⟨b, off + 4, none⟩ = some (.int .i64 y.h) ∧ w'.cell? ⟨b, off + 4 + 1, none⟩ = some (.int .i64 y.w) ∧ w'.cell? ⟨b, off + 4 + 2, none⟩ = some (.int .i64 y.c))
  case first =>
    cases e1 : (y.h == x.h) with
    | false =>
      obtain rfl : tz = true := HZ.out.mpr (fun h => by rw [h.1] at e1; simp at e1)
      have e3 : (y.h != x.h) = true := by simp [bne, e1]
      go_quiet (fail)
      go_wp2_with fail
      go_meet
      exact ⟨rfl, by (exact kKeep)⟩
    | true =>
      have e3 : (y.h != x.h) = false := by simp [bne, e1]
      cases e2 : (y.w == x.w) with
      | false =>
        obtain rfl : tz = true := HZ.out.mpr (fun h => by rw [h.2] at e2; simp at e2)
        have e4 : (y.w != x.w) = true := by simp [bne, e2]
        go_quiet (fail)
        go_wp2_with fail
        go_meet
        exact ⟨rfl, by (exact kKeep)⟩
      | true =>
        have e4 : (y.w != x.w) = false := by simp [bne, e2]
        obtain rfl : tz = false := Bool.eq_false_iff.mpr (fun h => HZ.out.mp h ⟨by have := beq_iff_eq.mp e1; omega, by have := beq_iff_eq.mp e2; omega⟩)
        go_quiet (fail)
        go_wp2_with fail
        go_meet
        exact ⟨rfl, by (exact kKeep)⟩
  case rest =>
    obtain ⟨rfl, b4, b5, b6, f2, g2, z2, v1, v2, v3⟩ := hcut
    clear b1 b2 b3 f1 g1 z1 y1 y2 y3 y4
    have ht' := ht.out
    clear ht
    by_cases c : x.h = y.h ∧ x.w = y.w
    · rw [if_pos c] at ht'
      subst ht'
      obtain rfl : tz = false := Bool.eq_false_iff.mpr (fun h => HZ.out.mp h c)
      clear c
      go_upto_region 22 with fail
      have i0 := has_box (o := 0) b5 (by decide)
      have i1 := has_box (o := 1) b5 (by decide)
      have i2 := has_box (o := 2) b5 (by decide)
      clear b5
      have w0 : IntKind.i64.wrap (x.c + y.c) = x.c + y.c := IntWalk.i64_in _ (by omega)
      go_region_held3 (fun w' => (∀ o : Nat, w'.cell? ⟨W.heap.size, o, none⟩ = (#[.int .i64 n.op, vi, .int .i64 n.k, .int .i64 n.stride, .int .i64 n.pad, .int .i64 n.out, .int .i64 n.mul, .int .i64 n.shift, .int .i64 n.zero, .int .i64 n.th, .int .i64 n.tw, .int .i64 n.tc, vw, vb] : Array Value)[o]?) ∧ (w'.cell? ⟨W.heap.size + 1, 0, none⟩ = some (rd w' (W.heap.size + 1) 0) ∧ w'.cell? ⟨W.heap.size + 1, 1, none⟩ = some (rd w' (W.heap.size + 1) 1) ∧ w'.cell? ⟨W.heap.size + 1, 2, none⟩ = some (rd w' (W.heap.size + 1) 2)) ∧ (∀ o : Nat, w'.cell? ⟨W.heap.size + 2, o, none⟩ = (#[.int .i64 x.h, .int .i64 x.w, .int .i64 x.c] : Array Value)[o]?) ∧ (∀ o : Nat, w'.frozen? ⟨W.heap.size + 1, o, none⟩ = false) ∧ Grown W w' ∧ W.heap.size + 3 ≤ w'.heap.size ∧ w'.cell? ⟨b, off + 4, none⟩ = some (.int .i64 y.h) ∧ w'.cell? ⟨b, off + 4 + 1, none⟩ = some (.int .i64 y.w) ∧ w'.cell? ⟨b, off + 4 + 2, none⟩ = some (.int .i64 y.c)) (exact kKeep) (fail)
      all_goals
        go_wp2_with fail
        go_split_ands
        have S3 := set3 (w := wc) (b := W.heap.size + 1) (x := .int .i64 x.h) (y := .int .i64 x.w) (z := .int .i64 (x.c + y.c)) (by first | with_reducible assumption | assumption) (by first | with_reducible assumption | assumption) (by first | with_reducible assumption | assumption)
        have S4 : ∀ p, ((((wc.setCell ⟨W.heap.size + 1, 0, none⟩ (.int .i64 x.h)).setCell ⟨W.heap.size + 1, 1, none⟩ (.int .i64 x.w)).setCell ⟨W.heap.size + 1, 2, none⟩ (.int .i64 (x.c + y.c))).drew).cell? p = (((wc.setCell ⟨W.heap.size + 1, 0, none⟩ (.int .i64 x.h)).setCell ⟨W.heap.size + 1, 1, none⟩ (.int .i64 x.w)).setCell ⟨W.heap.size + 1, 2, none⟩ (.int .i64 (x.c + y.c))).cell? p := fun _ => rfl
        exact bodyPost_ret (v := .agg #[.int .i64 x.h, .int .i64 x.w, .int .i64 (x.c + y.c)]) (by simp [results, Try.results32, go_sem, S4, S3.1, S3.2.1, S3.2.2]) rfl ⟨rfl, by with_reducible assumption⟩
    · rw [if_neg c] at ht'
      subst ht'
      obtain rfl : tz = true := HZ.out.mpr c
      clear c
      go_wp2_with fail
      exact bodyPost_ret (v := .agg #[.int .i64 0, .int .i64 0, .int .i64 0]) (by simp [results, Try.results32, go_sem, *]) rfl ⟨rfl, by (exact kKeep)⟩

set_option maxHeartbeats 4000000 in
theorem made_11 (n : NodeD) (vi vw vb : Value) (x : ValD) (b off len cap : Nat) (W : World) (h0 : 0 < len) (h1 : len ≤ cap) (hbb : b < W.heap.size) (hx : ValAt W b off x) (d1 : (n.op == 1) = false) (d2 : (n.op == 2) = false) (d4 : (n.op == 4) = false) (d5 : (n.op == 5) = false) (d3 : (n.op == 3) = false) (d6 : (n.op == 6) = false) (d7 : (n.op == 7) = false) (d9 : (n.op == 9) = false) (d10 : (n.op == 10) = false) (d11 : (n.op == 11) = true) (q q1 : Int) (hq : Hid (q = sizeI n.th n.tw n.tc)) (hq1 : Hid (q1 = sizeI x.h x.w x.c)) (t : Int × Int × Int) (ht : Hid (t = if q = q1 then (n.th, n.tw, n.tc) else (0, 0, 0))) :
    Calls Try.prog 32 #[.agg #[.int .i64 n.op, vi, .int .i64 n.k, .int .i64 n.stride, .int .i64 n.pad, .int .i64 n.out, .int .i64 n.mul, .int .i64 n.shift, .int .i64 n.zero, .int .i64 n.th, .int .i64 n.tw, .int .i64 n.tc, vw, vb], .slice (some ⟨b, off, none⟩) len cap] W fun e w' => e = .returned (.agg #[.int .i64 t.1, .int .i64 t.2.1, .int .i64 t.2.2]) ∧ Grown W w' := by
  obtain ⟨x1, x2, x3, x4⟩ := hx
  have j1 : (0 : Int) ≤ 0 := by omega
  have j2 : (0 : Int) < (len : Int) := by omega
  go_enter Try.func32, Try.ntmps32
  go_upto_region 2 with fail
  refine opq (fun w' => (∀ o : Nat, w'.cell? ⟨W.heap.size, o, none⟩ = (#[.int .i64 n.op, vi, .int .i64 n.k, .int .i64 n.stride, .int .i64 n.pad, .int .i64 n.out, .int .i64 n.mul, .int .i64 n.shift, .int .i64 n.zero, .int .i64 n.th, .int .i64 n.tw, .int .i64 n.tc, vw, vb] : Array Value)[o]?) ∧ (∀ o : Nat, w'.cell? ⟨W.heap.size + 1, o, none⟩ = (#[.int .i64 0, .int .i64 0, .int .i64 0] : Array Value)[o]?) ∧ (∀ o : Nat, w'.cell? ⟨W.heap.size + 2, o, none⟩ = (#[.int .i64 x.h, .int .i64 x.w, .int .i64 x.c] : Array Value)[o]?) ∧ (∀ o : Nat, w'.frozen? ⟨W.heap.size + 1, o, none⟩ = false) ∧ Grown W w' ∧ W.heap.size + 3 ≤ w'.heap.size) kLaid ?_
  rintro W1 ⟨b1, b2, b3, f1, g1, z1⟩
  clear x1 x2 x3 x4 j1 j2
  go_upto_region 24 with fail
  go_cut [112] (fun c w' => c = .bool (q != q1) ∧ (∀ o : Nat, w'.cell? ⟨W.heap.size, o, none⟩ = (#[.int .i64 n.op, vi, .int .i64 n.k, .int .i64 n.stride, .int .i64 n.pad, .int .i64 n.out, .int .i64 n.mul, .int .i64 n.shift, .int .i64 n.zero, .int .i64 n.th, .int .i64 n.tw, .int .i64 n.tc, vw, vb] : Array Value)[o]?) ∧ (∀ o : Nat, w'.cell? ⟨W.heap.size + 1, o, none⟩ = (#[.int .i64 0, .int .i64 0, .int .i64 0] : Array Value)[o]?) ∧ (∀ o : Nat, w'.cell? ⟨W.heap.size + 2, o, none⟩ = (#[.int .i64 x.h, .int .i64 x.w, .int .i64 x.c] : Array Value)[o]?) ∧ (∀ o : Nat, w'.frozen? ⟨W.heap.size + 1, o, none⟩ = false) ∧ Grown W w' ∧ W.heap.size + 3 ≤ w'.heap.size)
  case first =>
    go_region_held3 (fun w' => (∀ o : Nat, w'.cell? ⟨W.heap.size, o, none⟩ = (#[.int .i64 n.op, vi, .int .i64 n.k, .int .i64 n.stride, .int .i64 n.pad, .int .i64 n.out, .int .i64 n.mul, .int .i64 n.shift, .int .i64 n.zero, .int .i64 n.th, .int .i64 n.tw, .int .i64 n.tc, vw, vb] : Array Value)[o]?) ∧ (∀ o : Nat, w'.cell? ⟨W.heap.size + 1, o, none⟩ = (#[.int .i64 0, .int .i64 0, .int .i64 0] : Array Value)[o]?) ∧ (∀ o : Nat, w'.cell? ⟨W.heap.size + 2, o, none⟩ = (#[.int .i64 x.h, .int .i64 x.w, .int .i64 x.c] : Array Value)[o]?) ∧ (∀ o : Nat, w'.frozen? ⟨W.heap.size + 1, o, none⟩ = false) ∧ Grown W w' ∧ W.heap.size + 3 ≤ w'.heap.size) (exact kKeep)
      (first | (go_at_call 16; with_reducible refine (rsize_any n.th n.tw n.tc q _ hq).mono ?_; rintro e w1 ⟨rfl, g⟩) | (go_at_call 16; with_reducible refine (rsize_any x.h x.w x.c q1 _ hq1).mono ?_; rintro e w1 ⟨rfl, g⟩))
    all_goals
      go_wp2_with fail
      go_meet
      go_split_ands
      exact ⟨rfl, by (exact kKeep)⟩
  case rest =>
    obtain ⟨rfl, b4, b5, b6, f2, g2, z2⟩ := hcut
    clear b1 b2 b3 f1 g1 z1
    have ht' := ht.out
    clear ht
    cases c : (q != q1) with
    | false =>
      rw [if_pos (by simpa using c)] at ht'
      subst ht'
      go_wp2_with fail
      exact bodyPost_ret (v := .agg #[.int .i64 n.th, .int .i64 n.tw, .int .i64 n.tc]) (by simp [results, Try.results32, go_sem, *]) rfl ⟨rfl, by (exact kKeep)⟩
    | true =>
      rw [if_neg (by simpa using c)] at ht'
      subst ht'
      go_wp2_with fail
      exact bodyPost_ret (v := .agg #[.int .i64 0, .int .i64 0, .int .i64 0]) (by simp [results, Try.results32, go_sem, *]) rfl ⟨rfl, by (exact kKeep)⟩

set_option maxHeartbeats 4000000 in
theorem made_0 (n : NodeD) (vi vw vb : Value) (x : ValD) (b off len cap : Nat) (W : World) (h0 : 0 < len) (h1 : len ≤ cap) (hbb : b < W.heap.size) (hx : ValAt W b off x) (d1 : (n.op == 1) = false) (d2 : (n.op == 2) = false) (d4 : (n.op == 4) = false) (d5 : (n.op == 5) = false) (d3 : (n.op == 3) = false) (d6 : (n.op == 6) = false) (d7 : (n.op == 7) = false) (d9 : (n.op == 9) = false) (d10 : (n.op == 10) = false) (d11 : (n.op == 11) = false)  :
    Calls Try.prog 32 #[.agg #[.int .i64 n.op, vi, .int .i64 n.k, .int .i64 n.stride, .int .i64 n.pad, .int .i64 n.out, .int .i64 n.mul, .int .i64 n.shift, .int .i64 n.zero, .int .i64 n.th, .int .i64 n.tw, .int .i64 n.tc, vw, vb], .slice (some ⟨b, off, none⟩) len cap] W fun e w' => e = .returned (.agg #[.int .i64 x.h, .int .i64 x.w, .int .i64 x.c]) ∧ Grown W w' := by
  obtain ⟨x1, x2, x3, x4⟩ := hx
  have j1 : (0 : Int) ≤ 0 := by omega
  have j2 : (0 : Int) < (len : Int) := by omega
  go_enter Try.func32, Try.ntmps32
  go_upto_region 2 with fail
  refine opq (fun w' => (∀ o : Nat, w'.cell? ⟨W.heap.size, o, none⟩ = (#[.int .i64 n.op, vi, .int .i64 n.k, .int .i64 n.stride, .int .i64 n.pad, .int .i64 n.out, .int .i64 n.mul, .int .i64 n.shift, .int .i64 n.zero, .int .i64 n.th, .int .i64 n.tw, .int .i64 n.tc, vw, vb] : Array Value)[o]?) ∧ (∀ o : Nat, w'.cell? ⟨W.heap.size + 1, o, none⟩ = (#[.int .i64 0, .int .i64 0, .int .i64 0] : Array Value)[o]?) ∧ (∀ o : Nat, w'.cell? ⟨W.heap.size + 2, o, none⟩ = (#[.int .i64 x.h, .int .i64 x.w, .int .i64 x.c] : Array Value)[o]?) ∧ (∀ o : Nat, w'.frozen? ⟨W.heap.size + 1, o, none⟩ = false) ∧ Grown W w' ∧ W.heap.size + 3 ≤ w'.heap.size) kLaid ?_
  rintro W1 ⟨b1, b2, b3, f1, g1, z1⟩
  clear x1 x2 x3 x4 j1 j2
  go_wp2_with fail
  exact bodyPost_ret (v := .agg #[.int .i64 x.h, .int .i64 x.w, .int .i64 x.c]) (by simp [results, Try.results32, go_sem, *]) rfl ⟨rfl, by (exact kKeep)⟩
end Go.Proofs.Ytgbedoffgahhaaa
