/- The reference of layer 3: its small tests. The reference of layer 3: many. isa: fields of a kind. -/
import Derived.Test.YtejllmjkeefloaaJG6A
import Derived.Deep.DeepCutAuto
import Derived.Test.YtejllmjkeefloaaJG5
import Derived.Test.YtejllmjkeefloaaJT1
namespace Go.Proofs.Ytejllmjkeefloaa
open Go.ChangeShapes Go.WideShapes Go.ChangeAt Go.RowKit
set_option maxRecDepth 20000
set_option linter.unusedVariables false

theorem rin_any (x lo hi : Int) (t : Bool) (w : World) (ht : Hid (t = true ↔ lo ≤ x ∧ x ≤ hi)) : Calls Try.prog 38 #[.int .i64 x, .int .i64 lo, .int .i64 hi] w fun e w' => e = .returned (.bool t) ∧ Grown w w' := by
  by_cases c1 : lo ≤ x
  · have d1 : decide (lo ≤ x) = true := by simpa using c1
    by_cases c2 : x ≤ hi
    · have d2 : decide (x ≤ hi) = true := by simpa using c2
      obtain rfl : t = true := ht.out.mpr ⟨c1, c2⟩
      clear c1 c2 ht
      go_enter Try.func38, Try.ntmps38
      go_wp2_with fail
      go_ret
      exact ⟨rfl, by go_grown⟩
    · have d2 : decide (x ≤ hi) = false := by simpa using c2
      obtain rfl : t = false := by
        cases t
        · rfl
        · exact absurd (ht.out.mp rfl).2 c2
      clear c1 c2 ht
      go_enter Try.func38, Try.ntmps38
      go_wp2_with fail
      go_ret
      exact ⟨rfl, by go_grown⟩
  · have d1 : decide (lo ≤ x) = false := by simpa using c1
    obtain rfl : t = false := by
      cases t
      · rfl
      · exact absurd (ht.out.mp rfl).1 c1
    clear c1 ht
    go_enter Try.func38, Try.ntmps38
    go_wp2_with fail
    go_ret
    exact ⟨rfl, by go_grown⟩
theorem two_any (o : Int) (t : Bool) (w : World) (ht : Hid (t = true ↔ o = 6 ∨ o = 7 ∨ o = 10)) : Calls Try.prog 87 #[.int .i64 o] w fun e w' => e = .returned (.bool t) ∧ Grown w w' := by
  by_cases c6 : o = 6
  · obtain rfl : t = true := ht.out.mpr (by simp [c6])
    subst c6
    clear ht
    go_enter Try.func87, Try.ntmps87
    go_wp2_with fail
    go_ret
    exact ⟨rfl, by go_grown⟩
  have d6 : (o == 6) = false := by simp [c6]
  by_cases c7 : o = 7
  · obtain rfl : t = true := ht.out.mpr (by simp [c7])
    subst c7
    clear ht
    go_enter Try.func87, Try.ntmps87
    go_wp2_with fail
    go_ret
    exact ⟨rfl, by go_grown⟩
  have d7 : (o == 7) = false := by simp [c7]
  by_cases c10 : o = 10
  · obtain rfl : t = true := ht.out.mpr (by simp [c10])
    subst c10
    clear ht
    go_enter Try.func87, Try.ntmps87
    go_wp2_with fail
    go_ret
    exact ⟨rfl, by go_grown⟩
  have d10 : (o == 10) = false := by simp [c10]
  obtain rfl : t = false := by
    cases t
    · rfl
    · have := ht.out.mp rfl
      omega
  clear c6 c7 c10 ht
  go_enter Try.func87, Try.ntmps87
  go_wp2_with fail
  go_ret
  exact ⟨rfl, by go_grown⟩
theorem rkeeps_any (o : Int) (t : Bool) (w : World) (ht : Hid (t = true ↔ o = 4 ∨ o = 5 ∨ o = 8 ∨ o = 9 ∨ o = 10 ∨ o = 11)) : Calls Try.prog 63 #[.int .i64 o] w fun e w' => e = .returned (.bool t) ∧ Grown w w' := by
  by_cases c4 : o = 4
  · obtain rfl : t = true := ht.out.mpr (by simp [c4])
    subst c4
    clear ht
    go_enter Try.func63, Try.ntmps63
    go_wp2_with fail
    go_ret
    exact ⟨rfl, by go_grown⟩
  have d4 : (o == 4) = false := by simp [c4]
  by_cases c5 : o = 5
  · obtain rfl : t = true := ht.out.mpr (by simp [c5])
    subst c5
    clear ht
    go_enter Try.func63, Try.ntmps63
    go_wp2_with fail
    go_ret
    exact ⟨rfl, by go_grown⟩
  have d5 : (o == 5) = false := by simp [c5]
  by_cases c8 : o = 8
  · obtain rfl : t = true := ht.out.mpr (by simp [c8])
    subst c8
    clear ht
    go_enter Try.func63, Try.ntmps63
    go_wp2_with fail
    go_ret
    exact ⟨rfl, by go_grown⟩
  have d8 : (o == 8) = false := by simp [c8]
  by_cases c9 : o = 9
  · obtain rfl : t = true := ht.out.mpr (by simp [c9])
    subst c9
    clear ht
    go_enter Try.func63, Try.ntmps63
    go_wp2_with fail
    go_ret
    exact ⟨rfl, by go_grown⟩
  have d9 : (o == 9) = false := by simp [c9]
  by_cases c10 : o = 10
  · obtain rfl : t = true := ht.out.mpr (by simp [c10])
    subst c10
    clear ht
    go_enter Try.func63, Try.ntmps63
    go_wp2_with fail
    go_ret
    exact ⟨rfl, by go_grown⟩
  have d10 : (o == 10) = false := by simp [c10]
  by_cases c11 : o = 11
  · obtain rfl : t = true := ht.out.mpr (by simp [c11])
    subst c11
    clear ht
    go_enter Try.func63, Try.ntmps63
    go_wp2_with fail
    go_ret
    exact ⟨rfl, by go_grown⟩
  have d11 : (o == 11) = false := by simp [c11]
  obtain rfl : t = false := by
    cases t
    · rfl
    · have := ht.out.mp rfl
      omega
  clear c4 c5 c8 c9 c10 c11 ht
  go_enter Try.func63, Try.ntmps63
  go_wp2_with fail
  go_ret
  exact ⟨rfl, by go_grown⟩
theorem window_any (o : Int) (t : Bool) (w : World) (ht : Hid (t = true ↔ 1 ≤ o ∧ o ≤ 5 ∧ o ≠ 3)) : Calls Try.prog 88 #[.int .i64 o] w fun e w' => e = .returned (.bool t) ∧ Grown w w' := by
  by_cases c1 : 1 ≤ o
  · have d1 : decide (1 ≤ o) = true := by simpa using c1
    by_cases c2 : o ≤ 5
    · have d2 : decide (o ≤ 5) = true := by simpa using c2
      by_cases c3 : o = 3
      · obtain rfl : t = false := by
          cases t
          · rfl
          · exact absurd c3 (ht.out.mp rfl).2.2
        subst c3
        clear c1 c2 d1 d2 ht
        go_enter Try.func88, Try.ntmps88
        go_wp2_with fail
        go_ret
        exact ⟨rfl, by go_grown⟩
      · have d3 : (o != 3) = true := by simpa using c3
        obtain rfl : t = true := ht.out.mpr ⟨c1, c2, c3⟩
        clear c1 c2 c3 ht
        go_enter Try.func88, Try.ntmps88
        go_wp2_with fail
        go_ret
        exact ⟨rfl, by go_grown⟩
    · have d2 : decide (o ≤ 5) = false := by simpa using c2
      obtain rfl : t = false := by
        cases t
        · rfl
        · exact absurd (ht.out.mp rfl).2.1 c2
      clear c1 c2 ht
      go_enter Try.func88, Try.ntmps88
      go_wp2_with fail
      go_ret
      exact ⟨rfl, by go_grown⟩
  · have d1 : decide (1 ≤ o) = false := by simpa using c1
    obtain rfl : t = false := by
      cases t
      · rfl
      · exact absurd (ht.out.mp rfl).1 c1
    clear c1 ht
    go_enter Try.func88, Try.ntmps88
    go_wp2_with fail
    go_ret
    exact ⟨rfl, by go_grown⟩
end Go.Proofs.Ytejllmjkeefloaa
namespace Go.Proofs.Ytejllmjkeefloaa
open Go.ChangeShapes Go.WideShapes Go.ChangeAt Go.RowKit
set_option maxRecDepth 20000
set_option linter.unusedVariables false

set_option maxHeartbeats 4000000 in
theorem many_1 (n : NodeD) (vi vw vb : Value) (x : ValD) (W : World) (k1 : 1 ≤ n.k) (k2 : n.k ≤ 3) (c1 : 1 ≤ x.c) (c2 : x.c ≤ 8) (o1 : 1 ≤ n.out) (o2 : n.out ≤ 8) (d1 : (n.op == 1) = true) :
    Calls Try.prog 65 #[.agg #[.int .i64 n.op, vi, .int .i64 n.k, .int .i64 n.stride, .int .i64 n.pad, .int .i64 n.out, .int .i64 n.mul, .int .i64 n.shift, .int .i64 n.zero, .int .i64 n.th, .int .i64 n.tw, .int .i64 n.tc, vw, vb], .agg #[.int .i64 x.h, .int .i64 x.w, .int .i64 x.c]] W fun e w' => e = .returned (.tuple #[.int .i64 (n.k * n.k * x.c * n.out), .int .i64 n.out]) ∧ Grown W w' := by
  obtain ⟨m1, m2⟩ := mul_bd k1 k2 k1 k2
  obtain ⟨m3, m4⟩ := mul_bd m1 m2 c1 c2
  obtain ⟨m5, m6⟩ := mul_bd m3 m4 o1 o2
  have e0 : IntKind.i64.wrap (n.k * n.k) = n.k * n.k := IntWalk.i64_in _ (by omega)
  have e1 : IntKind.i64.wrap (n.k * n.k * x.c) = n.k * n.k * x.c := IntWalk.i64_in _ (by omega)
  have e2 : IntKind.i64.wrap (n.k * n.k * x.c * n.out) = n.k * n.k * x.c * n.out := IntWalk.i64_in _ (by omega)
  clear m1 m2 m3 m4 m5 m6
  go_enter Try.func65, Try.ntmps65
  go_upto_region 1 with fail
  refine opq (fun w' => (∀ o : Nat, w'.cell? ⟨W.heap.size, o, none⟩ = (#[.int .i64 n.op, vi, .int .i64 n.k, .int .i64 n.stride, .int .i64 n.pad, .int .i64 n.out, .int .i64 n.mul, .int .i64 n.shift, .int .i64 n.zero, .int .i64 n.th, .int .i64 n.tw, .int .i64 n.tc, vw, vb] : Array Value)[o]?) ∧ (∀ o : Nat, w'.cell? ⟨W.heap.size + 1, o, none⟩ = (#[.int .i64 x.h, .int .i64 x.w, .int .i64 x.c] : Array Value)[o]?) ∧ Grown W w') kLaid ?_
  rintro W1 ⟨b1, b2, g1⟩
  go_upto_region 3 with fail
  go_quiet (fail)
  go_wp2_with fail
  go_ret2
  exact ⟨rfl, by (exact kKeep)⟩
set_option maxHeartbeats 4000000 in
theorem many_2 (n : NodeD) (vi vw vb : Value) (x : ValD) (W : World) (k1 : 1 ≤ n.k) (k2 : n.k ≤ 3) (c1 : 1 ≤ x.c) (c2 : x.c ≤ 8) (d1 : (n.op == 1) = false) (d2 : (n.op == 2) = true) :
    Calls Try.prog 65 #[.agg #[.int .i64 n.op, vi, .int .i64 n.k, .int .i64 n.stride, .int .i64 n.pad, .int .i64 n.out, .int .i64 n.mul, .int .i64 n.shift, .int .i64 n.zero, .int .i64 n.th, .int .i64 n.tw, .int .i64 n.tc, vw, vb], .agg #[.int .i64 x.h, .int .i64 x.w, .int .i64 x.c]] W fun e w' => e = .returned (.tuple #[.int .i64 (n.k * n.k * x.c), .int .i64 x.c]) ∧ Grown W w' := by
  obtain ⟨m1, m2⟩ := mul_bd k1 k2 k1 k2
  obtain ⟨m3, m4⟩ := mul_bd m1 m2 c1 c2
  have e0 : IntKind.i64.wrap (n.k * n.k) = n.k * n.k := IntWalk.i64_in _ (by omega)
  have e1 : IntKind.i64.wrap (n.k * n.k * x.c) = n.k * n.k * x.c := IntWalk.i64_in _ (by omega)
  clear m1 m2 m3 m4
  go_enter Try.func65, Try.ntmps65
  go_upto_region 1 with fail
  refine opq (fun w' => (∀ o : Nat, w'.cell? ⟨W.heap.size, o, none⟩ = (#[.int .i64 n.op, vi, .int .i64 n.k, .int .i64 n.stride, .int .i64 n.pad, .int .i64 n.out, .int .i64 n.mul, .int .i64 n.shift, .int .i64 n.zero, .int .i64 n.th, .int .i64 n.tw, .int .i64 n.tc, vw, vb] : Array Value)[o]?) ∧ (∀ o : Nat, w'.cell? ⟨W.heap.size + 1, o, none⟩ = (#[.int .i64 x.h, .int .i64 x.w, .int .i64 x.c] : Array Value)[o]?) ∧ Grown W w') kLaid ?_
  rintro W1 ⟨b1, b2, g1⟩
  go_upto_region 5 with fail
  go_quiet (fail)
  go_wp2_with fail
  go_ret2
  exact ⟨rfl, by (exact kKeep)⟩
set_option maxHeartbeats 4000000 in
theorem many_3 (n : NodeD) (vi vw vb : Value) (x : ValD) (W : World) (q : Int) (hq : Hid (q = sizeI x.h x.w x.c)) (q1 : 1 ≤ q) (q2 : q ≤ 2048) (o1 : 1 ≤ n.out) (o2 : n.out ≤ 8) (d1 : (n.op == 1) = false) (d2 : (n.op == 2) = false) (d3 : (n.op == 3) = true) :
    Calls Try.prog 65 #[.agg #[.int .i64 n.op, vi, .int .i64 n.k, .int .i64 n.stride, .int .i64 n.pad, .int .i64 n.out, .int .i64 n.mul, .int .i64 n.shift, .int .i64 n.zero, .int .i64 n.th, .int .i64 n.tw, .int .i64 n.tc, vw, vb], .agg #[.int .i64 x.h, .int .i64 x.w, .int .i64 x.c]] W fun e w' => e = .returned (.tuple #[.int .i64 (q * n.out), .int .i64 n.out]) ∧ Grown W w' := by
  obtain ⟨m5, m6⟩ := mul_bd q1 q2 o1 o2
  have e2 : IntKind.i64.wrap (q * n.out) = q * n.out := IntWalk.i64_in _ (by omega)
  clear m5 m6
  go_enter Try.func65, Try.ntmps65
  go_upto_region 1 with fail
  refine opq (fun w' => (∀ o : Nat, w'.cell? ⟨W.heap.size, o, none⟩ = (#[.int .i64 n.op, vi, .int .i64 n.k, .int .i64 n.stride, .int .i64 n.pad, .int .i64 n.out, .int .i64 n.mul, .int .i64 n.shift, .int .i64 n.zero, .int .i64 n.th, .int .i64 n.tw, .int .i64 n.tc, vw, vb] : Array Value)[o]?) ∧ (∀ o : Nat, w'.cell? ⟨W.heap.size + 1, o, none⟩ = (#[.int .i64 x.h, .int .i64 x.w, .int .i64 x.c] : Array Value)[o]?) ∧ Grown W w' ∧ W.heap.size + 2 ≤ w'.heap.size) kLaid ?_
  rintro W1 ⟨b1, b2, g1, z1⟩
  go_upto_region 7 with fail
  go_region_held3 (fun w' => (∀ o : Nat, w'.cell? ⟨W.heap.size, o, none⟩ = (#[.int .i64 n.op, vi, .int .i64 n.k, .int .i64 n.stride, .int .i64 n.pad, .int .i64 n.out, .int .i64 n.mul, .int .i64 n.shift, .int .i64 n.zero, .int .i64 n.th, .int .i64 n.tw, .int .i64 n.tc, vw, vb] : Array Value)[o]?) ∧ (∀ o : Nat, w'.cell? ⟨W.heap.size + 1, o, none⟩ = (#[.int .i64 x.h, .int .i64 x.w, .int .i64 x.c] : Array Value)[o]?) ∧ Grown W w' ∧ W.heap.size + 2 ≤ w'.heap.size) (exact kKeep) (first | (go_at_call 90; with_reducible refine (rsize_any x.h x.w x.c q _ hq).mono ?_; rintro e w1 ⟨rfl, g⟩))
  all_goals
    go_wp2_with fail
    go_split_ands
    go_ret2
    exact ⟨rfl, by (exact kKeep)⟩
set_option maxHeartbeats 4000000 in
theorem many_12 (n : NodeD) (vi vw vb : Value) (x : ValD) (W : World) (d1 : (n.op == 1) = false) (d2 : (n.op == 2) = false) (d3 : (n.op == 3) = false) (d12 : (n.op == 12) = true) :
    Calls Try.prog 65 #[.agg #[.int .i64 n.op, vi, .int .i64 n.k, .int .i64 n.stride, .int .i64 n.pad, .int .i64 n.out, .int .i64 n.mul, .int .i64 n.shift, .int .i64 n.zero, .int .i64 n.th, .int .i64 n.tw, .int .i64 n.tc, vw, vb], .agg #[.int .i64 x.h, .int .i64 x.w, .int .i64 x.c]] W fun e w' => e = .returned (.tuple #[.int .i64 256, .int .i64 0]) ∧ Grown W w' := by
  go_enter Try.func65, Try.ntmps65
  go_upto_region 1 with fail
  refine opq (fun w' => (∀ o : Nat, w'.cell? ⟨W.heap.size, o, none⟩ = (#[.int .i64 n.op, vi, .int .i64 n.k, .int .i64 n.stride, .int .i64 n.pad, .int .i64 n.out, .int .i64 n.mul, .int .i64 n.shift, .int .i64 n.zero, .int .i64 n.th, .int .i64 n.tw, .int .i64 n.tc, vw, vb] : Array Value)[o]?) ∧ (∀ o : Nat, w'.cell? ⟨W.heap.size + 1, o, none⟩ = (#[.int .i64 x.h, .int .i64 x.w, .int .i64 x.c] : Array Value)[o]?) ∧ Grown W w') kLaid ?_
  rintro W1 ⟨b1, b2, g1⟩
  go_wp2_with fail
  go_ret2
  exact ⟨rfl, by (exact kKeep)⟩
set_option maxHeartbeats 4000000 in
theorem many_0 (n : NodeD) (vi vw vb : Value) (x : ValD) (W : World) (d1 : (n.op == 1) = false) (d2 : (n.op == 2) = false) (d3 : (n.op == 3) = false) (d12 : (n.op == 12) = false) :
    Calls Try.prog 65 #[.agg #[.int .i64 n.op, vi, .int .i64 n.k, .int .i64 n.stride, .int .i64 n.pad, .int .i64 n.out, .int .i64 n.mul, .int .i64 n.shift, .int .i64 n.zero, .int .i64 n.th, .int .i64 n.tw, .int .i64 n.tc, vw, vb], .agg #[.int .i64 x.h, .int .i64 x.w, .int .i64 x.c]] W fun e w' => e = .returned (.tuple #[.int .i64 0, .int .i64 0]) ∧ Grown W w' := by
  go_enter Try.func65, Try.ntmps65
  go_upto_region 1 with fail
  refine opq (fun w' => (∀ o : Nat, w'.cell? ⟨W.heap.size, o, none⟩ = (#[.int .i64 n.op, vi, .int .i64 n.k, .int .i64 n.stride, .int .i64 n.pad, .int .i64 n.out, .int .i64 n.mul, .int .i64 n.shift, .int .i64 n.zero, .int .i64 n.th, .int .i64 n.tw, .int .i64 n.tc, vw, vb] : Array Value)[o]?) ∧ (∀ o : Nat, w'.cell? ⟨W.heap.size + 1, o, none⟩ = (#[.int .i64 x.h, .int .i64 x.w, .int .i64 x.c] : Array Value)[o]?) ∧ Grown W w') kLaid ?_
  rintro W1 ⟨b1, b2, g1⟩
  go_wp2_with fail
  go_ret2
  exact ⟨rfl, by (exact kKeep)⟩
end Go.Proofs.Ytejllmjkeefloaa
namespace Go.Proofs.Ytejllmjkeefloaa.Q8
open Go.ChangeShapes Go.WideShapes Go.ChangeAt Go.RowKit
set_option maxRecDepth 20000
set_option linter.unusedVariables false
set_option linter.unusedSimpArgs false

set_option maxHeartbeats 1000000 in
theorem part1_any (i : Nat) (hi : i = 0 ∨ i = 1) (P Q : Nat) (W : World) (hq : (∀ o : Nat, W.cell? ⟨Q, o, none⟩ = (#[.pointer (some ⟨P, 0, none⟩)] : Array Value)[o]?)) :
    Calls Try.prog 123 #[.int .i64 (i : Int), .pointer (some ⟨Q, 0, none⟩)] W fun e w' => e = .returned (fldV P ⟨8 + i, 0, 1023, 2⟩) ∧ Past W w' := by
  have hQ : Q < W.heap.size := cell_lt (hq 0)
  rcases hi with rfl | rfl
  all_goals
    go_enter Try.func123, Try.ntmps123
    go_upto_region 1 with fail
    refine opq (fun w' => (∀ o : Nat, w'.cell? ⟨Q, o, none⟩ = (#[.pointer (some ⟨P, 0, none⟩)] : Array Value)[o]?) ∧ (∀ o : Nat, w'.cell? ⟨W.heap.size, o, none⟩ = (#[.pointer none, .int .i64 0, .int .i64 0, .int .i64 0] : Array Value)[o]?) ∧ (∀ o : Nat, w'.frozen? ⟨W.heap.size, o, none⟩ = false) ∧ Past W w' ∧ W.heap.size + 1 ≤ w'.heap.size) kKeep ?_
    rintro w1 ⟨b1, b2, f2, p1, z1⟩
    have P1 := Lib.hid p1
    clear p1
    go_wp2_with fail
  · have b4 := box_set4 (y0 := .pointer (some ⟨P, 8 + 0, none⟩)) (y1 := .int .i64 0) (y2 := .int .i64 1023) (y3 := .int .i64 2) b2
    exact bodyPost_ret (v := .agg #[.pointer (some ⟨P, 8 + 0, none⟩), .int .i64 0, .int .i64 1023, .int .i64 2]) (by simp [results, Try.results123, go_sem, b4]) rfl ⟨rfl, by have := P1.out; (exact kKeep)⟩
  · have b4 := box_set4 (y0 := .pointer (some ⟨P, 8 + 1, none⟩)) (y1 := .int .i64 0) (y2 := .int .i64 1023) (y3 := .int .i64 2) b2
    exact bodyPost_ret (v := .agg #[.pointer (some ⟨P, 8 + 1, none⟩), .int .i64 0, .int .i64 1023, .int .i64 2]) (by simp [results, Try.results123, go_sem, b4]) rfl ⟨rfl, by have := P1.out; (exact kKeep)⟩
set_option maxHeartbeats 1000000 in
theorem part2_any (i : Nat) (hi : i = 0 ∨ i = 1) (P Q : Nat) (W : World) (hq : (∀ o : Nat, W.cell? ⟨Q, o, none⟩ = (#[.pointer (some ⟨P, 0, none⟩)] : Array Value)[o]?)) :
    Calls Try.prog 124 #[.int .i64 (i : Int), .pointer (some ⟨Q, 0, none⟩)] W fun e w' => e = .returned (fldV P ⟨10 + i, 0, 15, 1⟩) ∧ Past W w' := by
  have hQ : Q < W.heap.size := cell_lt (hq 0)
  rcases hi with rfl | rfl
  all_goals
    go_enter Try.func124, Try.ntmps124
    go_upto_region 1 with fail
    refine opq (fun w' => (∀ o : Nat, w'.cell? ⟨Q, o, none⟩ = (#[.pointer (some ⟨P, 0, none⟩)] : Array Value)[o]?) ∧ (∀ o : Nat, w'.cell? ⟨W.heap.size, o, none⟩ = (#[.pointer none, .int .i64 0, .int .i64 0, .int .i64 0] : Array Value)[o]?) ∧ (∀ o : Nat, w'.frozen? ⟨W.heap.size, o, none⟩ = false) ∧ Past W w' ∧ W.heap.size + 1 ≤ w'.heap.size) kKeep ?_
    rintro w1 ⟨b1, b2, f2, p1, z1⟩
    have P1 := Lib.hid p1
    clear p1
    go_wp2_with fail
  · have b4 := box_set4 (y0 := .pointer (some ⟨P, 10 + 0, none⟩)) (y1 := .int .i64 0) (y2 := .int .i64 15) (y3 := .int .i64 1) b2
    exact bodyPost_ret (v := .agg #[.pointer (some ⟨P, 10 + 0, none⟩), .int .i64 0, .int .i64 15, .int .i64 1]) (by simp [results, Try.results124, go_sem, b4]) rfl ⟨rfl, by have := P1.out; (exact kKeep)⟩
  · have b4 := box_set4 (y0 := .pointer (some ⟨P, 10 + 1, none⟩)) (y1 := .int .i64 0) (y2 := .int .i64 15) (y3 := .int .i64 1) b2
    exact bodyPost_ret (v := .agg #[.pointer (some ⟨P, 10 + 1, none⟩), .int .i64 0, .int .i64 15, .int .i64 1]) (by simp [results, Try.results124, go_sem, b4]) rfl ⟨rfl, by have := P1.out; (exact kKeep)⟩
set_option maxHeartbeats 1000000 in
theorem part3_any (i : Nat) (hi : i = 0 ∨ i = 1) (P Q : Nat) (W : World) (hq : (∀ o : Nat, W.cell? ⟨Q, o, none⟩ = (#[.pointer (some ⟨P, 0, none⟩)] : Array Value)[o]?)) :
    Calls Try.prog 125 #[.int .i64 (i : Int), .pointer (some ⟨Q, 0, none⟩)] W fun e w' => e = .returned (fldV P ⟨12 + i, 0, 16, 1⟩) ∧ Past W w' := by
  have hQ : Q < W.heap.size := cell_lt (hq 0)
  rcases hi with rfl | rfl
  all_goals
    go_enter Try.func125, Try.ntmps125
    go_upto_region 1 with fail
    refine opq (fun w' => (∀ o : Nat, w'.cell? ⟨Q, o, none⟩ = (#[.pointer (some ⟨P, 0, none⟩)] : Array Value)[o]?) ∧ (∀ o : Nat, w'.cell? ⟨W.heap.size, o, none⟩ = (#[.pointer none, .int .i64 0, .int .i64 0, .int .i64 0] : Array Value)[o]?) ∧ (∀ o : Nat, w'.frozen? ⟨W.heap.size, o, none⟩ = false) ∧ Past W w' ∧ W.heap.size + 1 ≤ w'.heap.size) kKeep ?_
    rintro w1 ⟨b1, b2, f2, p1, z1⟩
    have P1 := Lib.hid p1
    clear p1
    go_wp2_with fail
  · have b4 := box_set4 (y0 := .pointer (some ⟨P, 12 + 0, none⟩)) (y1 := .int .i64 0) (y2 := .int .i64 16) (y3 := .int .i64 1) b2
    exact bodyPost_ret (v := .agg #[.pointer (some ⟨P, 12 + 0, none⟩), .int .i64 0, .int .i64 16, .int .i64 1]) (by simp [results, Try.results125, go_sem, b4]) rfl ⟨rfl, by have := P1.out; (exact kKeep)⟩
  · have b4 := box_set4 (y0 := .pointer (some ⟨P, 12 + 1, none⟩)) (y1 := .int .i64 0) (y2 := .int .i64 16) (y3 := .int .i64 1) b2
    exact bodyPost_ret (v := .agg #[.pointer (some ⟨P, 12 + 1, none⟩), .int .i64 0, .int .i64 16, .int .i64 1]) (by simp [results, Try.results125, go_sem, b4]) rfl ⟨rfl, by have := P1.out; (exact kKeep)⟩
end Go.Proofs.Ytejllmjkeefloaa.Q8
