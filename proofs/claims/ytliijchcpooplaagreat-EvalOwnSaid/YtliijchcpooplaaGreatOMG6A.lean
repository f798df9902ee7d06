/- graph: opOf, 1, 2, 3, 4. The reference of layer 3: its small tests. The reference of layer 3: many. -/
import Derived.Test.YtliijchcpooplaaGreatOMG4
import Derived.Deep.DeepCutAuto
import Derived.Test.YtliijchcpooplaaGreatOMFxMath
namespace Go.Proofs.YtliijchcpooplaaGreat
open Go.ChangeShapes Go.WideShapes Go.ChangeAt Go.RowKit
set_option maxRecDepth 20000
set_option linter.unusedVariables false
set_option maxHeartbeats 2000000 in
theorem opOf_1 (w : World) : Calls Tryz.prog 52 #[.int .i64 1] w (Made1 ⟨1, 1, 3, 1, 2, 0, 1, 1, 8, false, false⟩ 92 95 (.func (.func 69) #[] #[]) (.func (.func 71) #[] #[]) w) := by
  go_enter Tryz.func52, Tryz.ntmps52
  go_wp2_with (first | (go_at_call 76; with_reducible refine (always_any _ _).mono ?_; rintro e w1 ⟨rfl, rfl⟩) | (go_at_call 68; with_reducible refine (slid_any _ _).mono ?_; rintro e w1 ⟨rfl, rfl⟩) | (go_at_call 70; with_reducible refine (ofChannels_any _ _).mono ?_; rintro e w1 ⟨rfl, rfl⟩))
  go_region_held3 (fun w' => w'.cell? ⟨w.heap.size + 1 + 1, 0, none⟩ = some (.int .i64 0) /\ w'.cell? ⟨w.heap.size + 1 + 1, 1, none⟩ = some (.int .i64 1) /\ w'.cell? ⟨w.heap.size + 1 + 1 + 1, 0, none⟩ = some (.int .i64 1) /\ w'.cell? ⟨w.heap.size + 1 + 1 + 1, 1, none⟩ = some (.int .i64 8)) (((repeat' with_reducible apply And.intro) <;> go_cell)) (first | (go_at_call 76; with_reducible refine (always_any _ _).mono ?_; rintro e w1 ⟨rfl, rfl⟩) | (go_at_call 68; with_reducible refine (slid_any _ _).mono ?_; rintro e w1 ⟨rfl, rfl⟩) | (go_at_call 70; with_reducible refine (ofChannels_any _ _).mono ?_; rintro e w1 ⟨rfl, rfl⟩))
  all_goals
    go_wp2_with fail
    exact bodyPost_ret (by simp [results, Tryz.results52, go_sem]; rfl) rfl ⟨_, _, rfl, by go_cell, by simp, by go_cell, by simp, by go_grown⟩
set_option maxHeartbeats 2000000 in
theorem opOf_2 (w : World) : Calls Tryz.prog 52 #[.int .i64 2] w (Made1 ⟨1, 1, 3, 1, 2, 0, 1, 0, 0, false, false⟩ 92 95 (.func (.func 72) #[] #[]) (.func (.func 73) #[] #[]) w) := by
  go_enter Tryz.func52, Tryz.ntmps52
  go_wp2_with (first | (go_at_call 76; with_reducible refine (always_any _ _).mono ?_; rintro e w1 ⟨rfl, rfl⟩) | (go_at_call 68; with_reducible refine (slid_any _ _).mono ?_; rintro e w1 ⟨rfl, rfl⟩) | (go_at_call 70; with_reducible refine (ofChannels_any _ _).mono ?_; rintro e w1 ⟨rfl, rfl⟩))
  go_region_held3 (fun w' => w'.cell? ⟨w.heap.size + 1 + 1, 0, none⟩ = some (.int .i64 0) /\ w'.cell? ⟨w.heap.size + 1 + 1, 1, none⟩ = some (.int .i64 1) /\ w'.cell? ⟨w.heap.size + 1 + 1 + 1, 0, none⟩ = some (.int .i64 1) /\ w'.cell? ⟨w.heap.size + 1 + 1 + 1, 1, none⟩ = some (.int .i64 8)) (((repeat' with_reducible apply And.intro) <;> go_cell)) (first | (go_at_call 76; with_reducible refine (always_any _ _).mono ?_; rintro e w1 ⟨rfl, rfl⟩) | (go_at_call 68; with_reducible refine (slid_any _ _).mono ?_; rintro e w1 ⟨rfl, rfl⟩) | (go_at_call 70; with_reducible refine (ofChannels_any _ _).mono ?_; rintro e w1 ⟨rfl, rfl⟩))
  all_goals
    go_wp2_with fail
    exact bodyPost_ret (by simp [results, Tryz.results52, go_sem]; rfl) rfl ⟨_, _, rfl, by go_cell, by simp, by go_cell, by simp, by go_grown⟩
set_option maxHeartbeats 2000000 in
theorem opOf_3 (w : World) : Calls Tryz.prog 52 #[.int .i64 3] w (Made0 ⟨1, 0, 0, 0, 0, 0, 0, 1, 8, false, false⟩ 74 95 (.func (.func 75) #[] #[]) w) := by
  go_enter Tryz.func52, Tryz.ntmps52
  go_wp2_with (first | (go_at_call 76; with_reducible refine (always_any _ _).mono ?_; rintro e w1 ⟨rfl, rfl⟩) | (go_at_call 68; with_reducible refine (slid_any _ _).mono ?_; rintro e w1 ⟨rfl, rfl⟩) | (go_at_call 70; with_reducible refine (ofChannels_any _ _).mono ?_; rintro e w1 ⟨rfl, rfl⟩))
  go_region_held3 (fun w' => w'.cell? ⟨w.heap.size + 1 + 1, 0, none⟩ = some (.int .i64 0) /\ w'.cell? ⟨w.heap.size + 1 + 1, 1, none⟩ = some (.int .i64 1) /\ w'.cell? ⟨w.heap.size + 1 + 1 + 1, 0, none⟩ = some (.int .i64 1) /\ w'.cell? ⟨w.heap.size + 1 + 1 + 1, 1, none⟩ = some (.int .i64 8)) (((repeat' with_reducible apply And.intro) <;> go_cell)) (first | (go_at_call 76; with_reducible refine (always_any _ _).mono ?_; rintro e w1 ⟨rfl, rfl⟩) | (go_at_call 68; with_reducible refine (slid_any _ _).mono ?_; rintro e w1 ⟨rfl, rfl⟩) | (go_at_call 70; with_reducible refine (ofChannels_any _ _).mono ?_; rintro e w1 ⟨rfl, rfl⟩))
  all_goals
    go_wp2_with fail
    exact bodyPost_ret (by simp [results, Tryz.results52, go_sem]; rfl) rfl ⟨_, rfl, by go_cell, by simp, by go_grown⟩
set_option maxHeartbeats 2000000 in
theorem opOf_4 (w : World) : Calls Tryz.prog 52 #[.int .i64 4] w (Made1 ⟨1, 1, 3, 1, 2, 0, 0, 0, 0, false, true⟩ 92 96 (.func (.func 72) #[] #[]) (.int .i64 0) w) := by
  go_enter Tryz.func52, Tryz.ntmps52
  go_wp2_with (first | (go_at_call 76; with_reducible refine (always_any _ _).mono ?_; rintro e w1 ⟨rfl, rfl⟩) | (go_at_call 68; with_reducible refine (slid_any _ _).mono ?_; rintro e w1 ⟨rfl, rfl⟩) | (go_at_call 70; with_reducible refine (ofChannels_any _ _).mono ?_; rintro e w1 ⟨rfl, rfl⟩))
  exact bodyPost_ret (by simp [results, Tryz.results52, go_sem]; rfl) rfl ⟨_, _, rfl, by go_cell, by simp, by go_cell, by simp, by go_grown⟩
theorem rin_any (x lo hi : Int) (t : Bool) (w : World) (ht : Hid (t = true ↔ lo <= x /\ x <= hi)) : Calls Tryz.prog 21 #[.int .i64 x, .int .i64 lo, .int .i64 hi] w fun e w' => e = .returned (.bool t) /\ Grown w w' := by
  by_cases c1 : lo <= x
  . have d1 : decide (lo <= x) = true := by simpa using c1
    by_cases c2 : x <= hi
    . have d2 : decide (x <= hi) = true := by simpa using c2
      obtain rfl : t = true := ht.out.mpr ⟨c1, c2⟩
      clear c1 c2 ht
      go_enter Tryz.func21, Tryz.ntmps21
      go_wp2_with fail
      go_ret
      exact ⟨rfl, by go_grown⟩
    . have d2 : decide (x <= hi) = false := by simpa using c2
      obtain rfl : t = false := by
        cases t
        . rfl
        . exact absurd (ht.out.mp rfl).2 c2
      clear c1 c2 ht
      go_enter Tryz.func21, Tryz.ntmps21
      go_wp2_with fail
      go_ret
      exact ⟨rfl, by go_grown⟩
  . have d1 : decide (lo <= x) = false := by simpa using c1
    obtain rfl : t = false := by
      cases t
      . rfl
      . exact absurd (ht.out.mp rfl).1 c1
    clear c1 ht
    go_enter Tryz.func21, Tryz.ntmps21
    go_wp2_with fail
    go_ret
    exact ⟨rfl, by go_grown⟩
theorem two_any (o : Int) (t : Bool) (w : World) (ht : Hid (t = true ↔ o = 6 ∨ o = 7 ∨ o = 10)) : Calls Tryz.prog 44 #[.int .i64 o] w fun e w' => e = .returned (.bool t) /\ Grown w w' := by
  by_cases c6 : o = 6
  . obtain rfl : t = true := ht.out.mpr (by simp [c6])
    subst c6
    clear ht
    go_enter Tryz.func44, Tryz.ntmps44
    go_wp2_with fail
    go_ret
    exact ⟨rfl, by go_grown⟩
  have d6 : (o == 6) = false := by simp [c6]
  by_cases c7 : o = 7
  . obtain rfl : t = true := ht.out.mpr (by simp [c7])
    subst c7
    clear ht
    go_enter Tryz.func44, Tryz.ntmps44
    go_wp2_with fail
    go_ret
    exact ⟨rfl, by go_grown⟩
  have d7 : (o == 7) = false := by simp [c7]
  by_cases c10 : o = 10
  . obtain rfl : t = true := ht.out.mpr (by simp [c10])
    subst c10
    clear ht
    go_enter Tryz.func44, Tryz.ntmps44
    go_wp2_with fail
    go_ret
    exact ⟨rfl, by go_grown⟩
  have d10 : (o == 10) = false := by simp [c10]
  obtain rfl : t = false := by
    cases t
    . rfl
    . have := ht.out.mp rfl
      omega
  clear c6 c7 c10 ht
  go_enter Tryz.func44, Tryz.ntmps44
  go_wp2_with fail
  go_ret
  exact ⟨rfl, by go_grown⟩
theorem rkeeps_any (o : Int) (t : Bool) (w : World) (ht : Hid (t = true ↔ o = 4 ∨ o = 5 ∨ o = 8 ∨ o = 9 ∨ o = 10 ∨ o = 11)) : Calls Tryz.prog 31 #[.int .i64 o] w fun e w' => e = .returned (.bool t) /\ Grown w w' := by
  by_cases c4 : o = 4
  . obtain rfl : t = true := ht.out.mpr (by simp [c4])
    subst c4
    clear ht
    go_enter Tryz.func31, Tryz.ntmps31
    go_wp2_with fail
    go_ret
    exact ⟨rfl, by go_grown⟩
  have d4 : (o == 4) = false := by simp [c4]
  by_cases c5 : o = 5
  . obtain rfl : t = true := ht.out.mpr (by simp [c5])
    subst c5
    clear ht
    go_enter Tryz.func31, Tryz.ntmps31
    go_wp2_with fail
    go_ret
    exact ⟨rfl, by go_grown⟩
  have d5 : (o == 5) = false := by simp [c5]
  by_cases c8 : o = 8
  . obtain rfl : t = true := ht.out.mpr (by simp [c8])
    subst c8
    clear ht
    go_enter Tryz.func31, Tryz.ntmps31
    go_wp2_with fail
    go_ret
    exact ⟨rfl, by go_grown⟩
  have d8 : (o == 8) = false := by simp [c8]
  by_cases c9 : o = 9
  . obtain rfl : t = true := ht.out.mpr (by simp [c9])
    subst c9
    clear ht
    go_enter Tryz.func31, Tryz.ntmps31
    go_wp2_with fail
    go_ret
    exact ⟨rfl, by go_grown⟩
  have d9 : (o == 9) = false := by simp [c9]
  by_cases c10 : o = 10
  . obtain rfl : t = true := ht.out.mpr (by simp [c10])
    subst c10
    clear ht
    go_enter Tryz.func31, Tryz.ntmps31
    go_wp2_with fail
    go_ret
    exact ⟨rfl, by go_grown⟩
  have d10 : (o == 10) = false := by simp [c10]
  by_cases c11 : o = 11
  . obtain rfl : t = true := ht.out.mpr (by simp [c11])
    subst c11
    clear ht
    go_enter Tryz.func31, Tryz.ntmps31
    go_wp2_with fail
    go_ret
    exact ⟨rfl, by go_grown⟩
  have d11 : (o == 11) = false := by simp [c11]
  obtain rfl : t = false := by
    cases t
    . rfl
    . have := ht.out.mp rfl
      omega
  clear c4 c5 c8 c9 c10 c11 ht
  go_enter Tryz.func31, Tryz.ntmps31
  go_wp2_with fail
  go_ret
  exact ⟨rfl, by go_grown⟩
theorem window_any (o : Int) (t : Bool) (w : World) (ht : Hid (t = true ↔ 1 <= o /\ o <= 5 /\ o ≠ 3)) : Calls Tryz.prog 45 #[.int .i64 o] w fun e w' => e = .returned (.bool t) /\ Grown w w' := by
  by_cases c1 : 1 <= o
  . have d1 : decide (1 <= o) = true := by simpa using c1
    by_cases c2 : o <= 5
    . have d2 : decide (o <= 5) = true := by simpa using c2
      by_cases c3 : o = 3
      . obtain rfl : t = false := by
          cases t
          . rfl
          . exact absurd c3 (ht.out.mp rfl).2.2
        subst c3
        clear c1 c2 d1 d2 ht
        go_enter Tryz.func45, Tryz.ntmps45
        go_wp2_with fail
        go_ret
        exact ⟨rfl, by go_grown⟩
      . have d3 : (o != 3) = true := by simpa using c3
        obtain rfl : t = true := ht.out.mpr ⟨c1, c2, c3⟩
        clear c1 c2 c3 ht
        go_enter Tryz.func45, Tryz.ntmps45
        go_wp2_with fail
        go_ret
        exact ⟨rfl, by go_grown⟩
    . have d2 : decide (o <= 5) = false := by simpa using c2
      obtain rfl : t = false := by
        cases t
        . rfl
        . exact absurd (ht.out.mp rfl).2.1 c2
      clear c1 c2 ht
      go_enter Tryz.func45, Tryz.ntmps45
      go_wp2_with fail
      go_ret
      exact ⟨rfl, by go_grown⟩
  . have d1 : decide (1 <= o) = false := by simpa using c1
    obtain rfl : t = false := by
      cases t
      . rfl
      . exact absurd (ht.out.mp rfl).1 c1
    clear c1 ht
    go_enter Tryz.func45, Tryz.ntmps45
    go_wp2_with fail
    go_ret
    exact ⟨rfl, by go_grown⟩
set_option maxHeartbeats 4000000 in
theorem many_1 (n : NodeD) (vi vw vb : Value) (x : ValD) (W : World) (k1 : 1 <= n.k) (k2 : n.k <= 3) (c1 : 1 <= x.c) (c2 : x.c <= 8) (o1 : 1 <= n.out) (o2 : n.out <= 8) (d1 : (n.op == 1) = true) :
    Calls Tryz.prog 33 #[.agg (nC n vi vw vb), .agg #[.int .i64 x.h, .int .i64 x.w, .int .i64 x.c]] W fun e w' => e = .returned (.tuple #[.int .i64 (n.k * n.k * x.c * n.out), .int .i64 n.out]) /\ Grown W w' := by
  obtain ⟨m1, m2⟩ := mul_bd k1 k2 k1 k2
  obtain ⟨m3, m4⟩ := mul_bd m1 m2 c1 c2
  obtain ⟨m5, m6⟩ := mul_bd m3 m4 o1 o2
  have e0 : IntKind.i64.wrap (n.k * n.k) = n.k * n.k := IntWalk.i64_in _ (by omega)
  have e1 : IntKind.i64.wrap (n.k * n.k * x.c) = n.k * n.k * x.c := IntWalk.i64_in _ (by omega)
  have e2 : IntKind.i64.wrap (n.k * n.k * x.c * n.out) = n.k * n.k * x.c * n.out := IntWalk.i64_in _ (by omega)
  clear m1 m2 m3 m4 m5 m6
  go_enter Tryz.func33, Tryz.ntmps33
  go_upto_region 1 with fail
  refine opq (fun w' => (Bx w' (W.heap.size) (nC n vi vw vb)) /\ (Bx w' (W.heap.size + 1) #[.int .i64 x.h, .int .i64 x.w, .int .i64 x.c]) /\ Grown W w') kLaid ?_
  rintro W1 ⟨b1, b2, g1⟩
  go_upto_region 3 with fail
  go_quiet (fail)
  go_wp2_with fail
  go_ret2
  exact ⟨rfl, by (exact kKeep)⟩
set_option maxHeartbeats 4000000 in
theorem many_2 (n : NodeD) (vi vw vb : Value) (x : ValD) (W : World) (k1 : 1 <= n.k) (k2 : n.k <= 3) (c1 : 1 <= x.c) (c2 : x.c <= 8) (d1 : (n.op == 1) = false) (d2 : (n.op == 2) = true) :
    Calls Tryz.prog 33 #[.agg (nC n vi vw vb), .agg #[.int .i64 x.h, .int .i64 x.w, .int .i64 x.c]] W fun e w' => e = .returned (.tuple #[.int .i64 (n.k * n.k * x.c), .int .i64 x.c]) /\ Grown W w' := by
  obtain ⟨m1, m2⟩ := mul_bd k1 k2 k1 k2
  obtain ⟨m3, m4⟩ := mul_bd m1 m2 c1 c2
  have e0 : IntKind.i64.wrap (n.k * n.k) = n.k * n.k := IntWalk.i64_in _ (by omega)
  have e1 : IntKind.i64.wrap (n.k * n.k * x.c) = n.k * n.k * x.c := IntWalk.i64_in _ (by omega)
  clear m1 m2 m3 m4
  go_enter Tryz.func33, Tryz.ntmps33
  go_upto_region 1 with fail
  refine opq (fun w' => (Bx w' (W.heap.size) (nC n vi vw vb)) /\ (Bx w' (W.heap.size + 1) #[.int .i64 x.h, .int .i64 x.w, .int .i64 x.c]) /\ Grown W w') kLaid ?_
  rintro W1 ⟨b1, b2, g1⟩
  go_upto_region 5 with fail
  go_quiet (fail)
  go_wp2_with fail
  go_ret2
  exact ⟨rfl, by (exact kKeep)⟩
set_option maxHeartbeats 4000000 in
theorem many_3 (n : NodeD) (vi vw vb : Value) (x : ValD) (W : World) (q : Int) (hq : Hid (q = sizeI x.h x.w x.c)) (q1 : 1 <= q) (q2 : q <= 2048) (o1 : 1 <= n.out) (o2 : n.out <= 8) (d1 : (n.op == 1) = false) (d2 : (n.op == 2) = false) (d3 : (n.op == 3) = true) :
    Calls Tryz.prog 33 #[.agg (nC n vi vw vb), .agg #[.int .i64 x.h, .int .i64 x.w, .int .i64 x.c]] W fun e w' => e = .returned (.tuple #[.int .i64 (q * n.out), .int .i64 n.out]) /\ Grown W w' := by
  obtain ⟨m5, m6⟩ := mul_bd q1 q2 o1 o2
  have e2 : IntKind.i64.wrap (q * n.out) = q * n.out := IntWalk.i64_in _ (by omega)
  clear m5 m6
  go_enter Tryz.func33, Tryz.ntmps33
  go_upto_region 1 with fail
  refine opq (fun w' => (Bx w' (W.heap.size) (nC n vi vw vb)) /\ (Bx w' (W.heap.size + 1) #[.int .i64 x.h, .int .i64 x.w, .int .i64 x.c]) /\ Grown W w' /\ W.heap.size + 2 <= w'.heap.size) kLaid ?_
  rintro W1 ⟨b1, b2, g1, z1⟩
  go_upto_region 7 with fail
  go_region_held3 (fun w' => (Bx w' (W.heap.size) (nC n vi vw vb)) /\ (Bx w' (W.heap.size + 1) #[.int .i64 x.h, .int .i64 x.w, .int .i64 x.c]) /\ Grown W w' /\ W.heap.size + 2 <= w'.heap.size) (exact kKeep) (first | (go_at_call 16; with_reducible refine (rsize_any x.h x.w x.c q _ hq).mono ?_; rintro e w1 ⟨rfl, g⟩))
  all_goals
    go_wp2_with fail
    go_split_ands
    go_ret2
    exact ⟨rfl, by (exact kKeep)⟩
set_option maxHeartbeats 4000000 in
theorem many_12 (n : NodeD) (vi vw vb : Value) (x : ValD) (W : World) (d1 : (n.op == 1) = false) (d2 : (n.op == 2) = false) (d3 : (n.op == 3) = false) (d12 : (n.op == 12) = true) :
    Calls Tryz.prog 33 #[.agg (nC n vi vw vb), .agg #[.int .i64 x.h, .int .i64 x.w, .int .i64 x.c]] W fun e w' => e = .returned (.tuple #[.int .i64 256, .int .i64 0]) /\ Grown W w' := by
  go_enter Tryz.func33, Tryz.ntmps33
  go_upto_region 1 with fail
  refine opq (fun w' => (Bx w' (W.heap.size) (nC n vi vw vb)) /\ (Bx w' (W.heap.size + 1) #[.int .i64 x.h, .int .i64 x.w, .int .i64 x.c]) /\ Grown W w') kLaid ?_
  rintro W1 ⟨b1, b2, g1⟩
  go_wp2_with fail
  go_ret2
  exact ⟨rfl, by (exact kKeep)⟩
set_option maxHeartbeats 4000000 in
theorem many_0 (n : NodeD) (vi vw vb : Value) (x : ValD) (W : World) (d1 : (n.op == 1) = false) (d2 : (n.op == 2) = false) (d3 : (n.op == 3) = false) (d12 : (n.op == 12) = false) :
    Calls Tryz.prog 33 #[.agg (nC n vi vw vb), .agg #[.int .i64 x.h, .int .i64 x.w, .int .i64 x.c]] W fun e w' => e = .returned (.tuple #[.int .i64 0, .int .i64 0]) /\ Grown W w' := by
  go_enter Tryz.func33, Tryz.ntmps33
  go_upto_region 1 with fail
  refine opq (fun w' => (Bx w' (W.heap.size) (nC n vi vw vb)) /\ (Bx w' (W.heap.size + 1) #[.int .i64 x.h, .int .i64 x.w, .int .i64 x.c]) /\ Grown W w') kLaid ?_
  rintro W1 ⟨b1, b2, g1⟩
  go_wp2_with fail
  go_ret2
  exact ⟨rfl, by (exact kKeep)⟩
end Go.Proofs.YtliijchcpooplaaGreat
