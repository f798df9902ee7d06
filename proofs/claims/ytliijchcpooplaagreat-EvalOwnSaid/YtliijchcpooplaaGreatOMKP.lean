/- kern: which rows are looked at. kern: needs. -/
import Derived.Deep.DeepCutAuto
import Derived.Test.YtliijchcpooplaaGreatOMFix
import Derived.Test.YtliijchcpooplaaGreatOMP1
import Derived.Test.YtliijchcpooplaaGreatOMKK
namespace Go.Proofs.YtliijchcpooplaaGreat
open Go.ChangeShapes Go.WideShapes Go.ChangeAt Go.RowKit
set_option maxRecDepth 20000
set_option linter.unusedVariables false
noncomputable def looksD (n : NodeD) (h first rows : Int) : Int × Int :=
  if n.op = 1 ∨ n.op = 2 ∨ n.op = 4 ∨ n.op = 5 then reachI first rows n.k n.stride n.pad h else
  if n.op = 9 then reachI first rows 1 1 n.pad h else
  if n.op = 3 ∨ n.op = 11 then (0, h) else (first, first + rows)
section
variable {n : NodeD} {vi vw vb lv : Value} {m : Int × Int × Int} {h first rows p q : Int} {W : World}
theorem looks_1 (ho : n.op = 1) (f0 : 0 <= first) (f1 : first <= 16) (r0 : 1 <= rows) (r1 : rows <= 16) (hp : Hid (p = (looksD n h first rows).1)) (hq : Hid (q = (looksD n h first rows).2)) :
    Calls Tryz.prog 83 #[.agg #[.int .i64 n.op, vi, .int .i64 n.k, .int .i64 n.stride, .int .i64 n.pad, .int .i64 n.out, .int .i64 n.mul, .int .i64 n.shift, .int .i64 n.zero, .int .i64 n.th, .int .i64 n.tw, .int .i64 n.tc, vw, vb, lv, .int .i64 m.1, .int .i64 m.2.1, .int .i64 m.2.2], .int .i64 h, .int .i64 first, .int .i64 rows] W fun e w' => e = .returned (.tuple #[.int .i64 p, .int .i64 q]) /\ Grown W w' := by
  have L : looksD n h first rows = reachI first rows n.k n.stride n.pad h := by unfold looksD; simp [ho]
  rw [L] at hp hq
  have c1 : (n.op == 1) = true := by rw [ho]; decide
  clear ho L
  go_enter Tryz.func83, Tryz.ntmps83
  go_upto_region 1 with fail
  refine opq (fun w' => (Bx w' (W.heap.size) #[.int .i64 n.op, vi, .int .i64 n.k, .int .i64 n.stride, .int .i64 n.pad, .int .i64 n.out, .int .i64 n.mul, .int .i64 n.shift, .int .i64 n.zero, .int .i64 n.th, .int .i64 n.tw, .int .i64 n.tc, vw, vb, lv, .int .i64 m.1, .int .i64 m.2.1, .int .i64 m.2.2]) /\ Grown W w' /\ W.heap.size + 1 <= w'.heap.size) kLaid ?_
  rintro W1 ⟨bt, g1, z1⟩
  go_wp2_with fail
  refine (reach_any first rows n.k n.stride n.pad h p q _ (by omega) (by omega) hp hq).mono ?_
  rintro e w2 ⟨rfl, g2⟩
  go_wp2_with fail
  go_ret2
  exact ⟨rfl, grown_trans g1 g2⟩
theorem looks_2 (ho : n.op = 2) (f0 : 0 <= first) (f1 : first <= 16) (r0 : 1 <= rows) (r1 : rows <= 16) (hp : Hid (p = (looksD n h first rows).1)) (hq : Hid (q = (looksD n h first rows).2)) :
    Calls Tryz.prog 83 #[.agg #[.int .i64 n.op, vi, .int .i64 n.k, .int .i64 n.stride, .int .i64 n.pad, .int .i64 n.out, .int .i64 n.mul, .int .i64 n.shift, .int .i64 n.zero, .int .i64 n.th, .int .i64 n.tw, .int .i64 n.tc, vw, vb, lv, .int .i64 m.1, .int .i64 m.2.1, .int .i64 m.2.2], .int .i64 h, .int .i64 first, .int .i64 rows] W fun e w' => e = .returned (.tuple #[.int .i64 p, .int .i64 q]) /\ Grown W w' := by
  have L : looksD n h first rows = reachI first rows n.k n.stride n.pad h := by unfold looksD; simp [ho]
  rw [L] at hp hq
  have c1 : (n.op == 1) = false := by rw [ho]; decide
  have c2 : (n.op == 2) = true := by rw [ho]; decide
  clear ho L
  go_enter Tryz.func83, Tryz.ntmps83
  go_upto_region 1 with fail
  refine opq (fun w' => (Bx w' (W.heap.size) #[.int .i64 n.op, vi, .int .i64 n.k, .int .i64 n.stride, .int .i64 n.pad, .int .i64 n.out, .int .i64 n.mul, .int .i64 n.shift, .int .i64 n.zero, .int .i64 n.th, .int .i64 n.tw, .int .i64 n.tc, vw, vb, lv, .int .i64 m.1, .int .i64 m.2.1, .int .i64 m.2.2]) /\ Grown W w' /\ W.heap.size + 1 <= w'.heap.size) kLaid ?_
  rintro W1 ⟨bt, g1, z1⟩
  go_wp2_with fail
  refine (reach_any first rows n.k n.stride n.pad h p q _ (by omega) (by omega) hp hq).mono ?_
  rintro e w2 ⟨rfl, g2⟩
  go_wp2_with fail
  go_ret2
  exact ⟨rfl, grown_trans g1 g2⟩
theorem looks_3 (ho : n.op = 3) (f0 : 0 <= first) (f1 : first <= 16) (r0 : 1 <= rows) (r1 : rows <= 16) (hp : Hid (p = (looksD n h first rows).1)) (hq : Hid (q = (looksD n h first rows).2)) :
    Calls Tryz.prog 83 #[.agg #[.int .i64 n.op, vi, .int .i64 n.k, .int .i64 n.stride, .int .i64 n.pad, .int .i64 n.out, .int .i64 n.mul, .int .i64 n.shift, .int .i64 n.zero, .int .i64 n.th, .int .i64 n.tw, .int .i64 n.tc, vw, vb, lv, .int .i64 m.1, .int .i64 m.2.1, .int .i64 m.2.2], .int .i64 h, .int .i64 first, .int .i64 rows] W fun e w' => e = .returned (.tuple #[.int .i64 p, .int .i64 q]) /\ Grown W w' := by
  have L : looksD n h first rows = ((0 : Int), h) := by unfold looksD; simp [ho]
  rw [L] at hp hq
  have c1 : (n.op == 1) = false := by rw [ho]; decide
  have c2 : (n.op == 2) = false := by rw [ho]; decide
  have c4 : (n.op == 4) = false := by rw [ho]; decide
  have c5 : (n.op == 5) = false := by rw [ho]; decide
  have c9 : (n.op == 9) = false := by rw [ho]; decide
  have c3 : (n.op == 3) = true := by rw [ho]; decide
  clear ho L
  have hp' : p = 0 := hp.out
  have hq' : q = h := hq.out
  clear hp hq
  subst hp' hq'
  go_enter Tryz.func83, Tryz.ntmps83
  go_upto_region 1 with fail
  refine opq (fun w' => (Bx w' (W.heap.size) #[.int .i64 n.op, vi, .int .i64 n.k, .int .i64 n.stride, .int .i64 n.pad, .int .i64 n.out, .int .i64 n.mul, .int .i64 n.shift, .int .i64 n.zero, .int .i64 n.th, .int .i64 n.tw, .int .i64 n.tc, vw, vb, lv, .int .i64 m.1, .int .i64 m.2.1, .int .i64 m.2.2]) /\ Grown W w' /\ W.heap.size + 1 <= w'.heap.size) kLaid ?_
  rintro W1 ⟨bt, g1, z1⟩
  go_wp2_with fail
  go_ret2
  exact ⟨rfl, g1⟩
theorem looks_4 (ho : n.op = 4) (f0 : 0 <= first) (f1 : first <= 16) (r0 : 1 <= rows) (r1 : rows <= 16) (hp : Hid (p = (looksD n h first rows).1)) (hq : Hid (q = (looksD n h first rows).2)) :
    Calls Tryz.prog 83 #[.agg #[.int .i64 n.op, vi, .int .i64 n.k, .int .i64 n.stride, .int .i64 n.pad, .int .i64 n.out, .int .i64 n.mul, .int .i64 n.shift, .int .i64 n.zero, .int .i64 n.th, .int .i64 n.tw, .int .i64 n.tc, vw, vb, lv, .int .i64 m.1, .int .i64 m.2.1, .int .i64 m.2.2], .int .i64 h, .int .i64 first, .int .i64 rows] W fun e w' => e = .returned (.tuple #[.int .i64 p, .int .i64 q]) /\ Grown W w' := by
  have L : looksD n h first rows = reachI first rows n.k n.stride n.pad h := by unfold looksD; simp [ho]
  rw [L] at hp hq
  have c1 : (n.op == 1) = false := by rw [ho]; decide
  have c2 : (n.op == 2) = false := by rw [ho]; decide
  have c4 : (n.op == 4) = true := by rw [ho]; decide
  clear ho L
  go_enter Tryz.func83, Tryz.ntmps83
  go_upto_region 1 with fail
  refine opq (fun w' => (Bx w' (W.heap.size) #[.int .i64 n.op, vi, .int .i64 n.k, .int .i64 n.stride, .int .i64 n.pad, .int .i64 n.out, .int .i64 n.mul, .int .i64 n.shift, .int .i64 n.zero, .int .i64 n.th, .int .i64 n.tw, .int .i64 n.tc, vw, vb, lv, .int .i64 m.1, .int .i64 m.2.1, .int .i64 m.2.2]) /\ Grown W w' /\ W.heap.size + 1 <= w'.heap.size) kLaid ?_
  rintro W1 ⟨bt, g1, z1⟩
  go_wp2_with fail
  refine (reach_any first rows n.k n.stride n.pad h p q _ (by omega) (by omega) hp hq).mono ?_
  rintro e w2 ⟨rfl, g2⟩
  go_wp2_with fail
  go_ret2
  exact ⟨rfl, grown_trans g1 g2⟩
theorem looks_5 (ho : n.op = 5) (f0 : 0 <= first) (f1 : first <= 16) (r0 : 1 <= rows) (r1 : rows <= 16) (hp : Hid (p = (looksD n h first rows).1)) (hq : Hid (q = (looksD n h first rows).2)) :
    Calls Tryz.prog 83 #[.agg #[.int .i64 n.op, vi, .int .i64 n.k, .int .i64 n.stride, .int .i64 n.pad, .int .i64 n.out, .int .i64 n.mul, .int .i64 n.shift, .int .i64 n.zero, .int .i64 n.th, .int .i64 n.tw, .int .i64 n.tc, vw, vb, lv, .int .i64 m.1, .int .i64 m.2.1, .int .i64 m.2.2], .int .i64 h, .int .i64 first, .int .i64 rows] W fun e w' => e = .returned (.tuple #[.int .i64 p, .int .i64 q]) /\ Grown W w' := by
  have L : looksD n h first rows = reachI first rows n.k n.stride n.pad h := by unfold looksD; simp [ho]
  rw [L] at hp hq
  have c1 : (n.op == 1) = false := by rw [ho]; decide
  have c2 : (n.op == 2) = false := by rw [ho]; decide
  have c4 : (n.op == 4) = false := by rw [ho]; decide
  have c5 : (n.op == 5) = true := by rw [ho]; decide
  clear ho L
  go_enter Tryz.func83, Tryz.ntmps83
  go_upto_region 1 with fail
  refine opq (fun w' => (Bx w' (W.heap.size) #[.int .i64 n.op, vi, .int .i64 n.k, .int .i64 n.stride, .int .i64 n.pad, .int .i64 n.out, .int .i64 n.mul, .int .i64 n.shift, .int .i64 n.zero, .int .i64 n.th, .int .i64 n.tw, .int .i64 n.tc, vw, vb, lv, .int .i64 m.1, .int .i64 m.2.1, .int .i64 m.2.2]) /\ Grown W w' /\ W.heap.size + 1 <= w'.heap.size) kLaid ?_
  rintro W1 ⟨bt, g1, z1⟩
  go_wp2_with fail
  refine (reach_any first rows n.k n.stride n.pad h p q _ (by omega) (by omega) hp hq).mono ?_
  rintro e w2 ⟨rfl, g2⟩
  go_wp2_with fail
  go_ret2
  exact ⟨rfl, grown_trans g1 g2⟩
theorem looks_6 (ho : n.op = 6) (f0 : 0 <= first) (f1 : first <= 16) (r0 : 1 <= rows) (r1 : rows <= 16) (hp : Hid (p = (looksD n h first rows).1)) (hq : Hid (q = (looksD n h first rows).2)) :
    Calls Tryz.prog 83 #[.agg #[.int .i64 n.op, vi, .int .i64 n.k, .int .i64 n.stride, .int .i64 n.pad, .int .i64 n.out, .int .i64 n.mul, .int .i64 n.shift, .int .i64 n.zero, .int .i64 n.th, .int .i64 n.tw, .int .i64 n.tc, vw, vb, lv, .int .i64 m.1, .int .i64 m.2.1, .int .i64 m.2.2], .int .i64 h, .int .i64 first, .int .i64 rows] W fun e w' => e = .returned (.tuple #[.int .i64 p, .int .i64 q]) /\ Grown W w' := by
  have L : looksD n h first rows = (first, first + rows) := by unfold looksD; simp [ho]
  rw [L] at hp hq
  have c1 : (n.op == 1) = false := by rw [ho]; decide
  have c2 : (n.op == 2) = false := by rw [ho]; decide
  have c4 : (n.op == 4) = false := by rw [ho]; decide
  have c5 : (n.op == 5) = false := by rw [ho]; decide
  have c9 : (n.op == 9) = false := by rw [ho]; decide
  have c3 : (n.op == 3) = false := by rw [ho]; decide
  have c11 : (n.op == 11) = false := by rw [ho]; decide
  clear ho L
  have hp' : p = first := hp.out
  have hq' : q = first + rows := hq.out
  have e1 : IntKind.i64.wrap (first + rows) = first + rows := IntWalk.i64_in _ (by omega)
  clear hp hq
  subst hp' hq'
  go_enter Tryz.func83, Tryz.ntmps83
  go_upto_region 1 with fail
  refine opq (fun w' => (Bx w' (W.heap.size) #[.int .i64 n.op, vi, .int .i64 n.k, .int .i64 n.stride, .int .i64 n.pad, .int .i64 n.out, .int .i64 n.mul, .int .i64 n.shift, .int .i64 n.zero, .int .i64 n.th, .int .i64 n.tw, .int .i64 n.tc, vw, vb, lv, .int .i64 m.1, .int .i64 m.2.1, .int .i64 m.2.2]) /\ Grown W w' /\ W.heap.size + 1 <= w'.heap.size) kLaid ?_
  rintro W1 ⟨bt, g1, z1⟩
  go_wp2_with fail
  go_ret2
  exact ⟨rfl, g1⟩
theorem looks_7 (ho : n.op = 7) (f0 : 0 <= first) (f1 : first <= 16) (r0 : 1 <= rows) (r1 : rows <= 16) (hp : Hid (p = (looksD n h first rows).1)) (hq : Hid (q = (looksD n h first rows).2)) :
    Calls Tryz.prog 83 #[.agg #[.int .i64 n.op, vi, .int .i64 n.k, .int .i64 n.stride, .int .i64 n.pad, .int .i64 n.out, .int .i64 n.mul, .int .i64 n.shift, .int .i64 n.zero, .int .i64 n.th, .int .i64 n.tw, .int .i64 n.tc, vw, vb, lv, .int .i64 m.1, .int .i64 m.2.1, .int .i64 m.2.2], .int .i64 h, .int .i64 first, .int .i64 rows] W fun e w' => e = .returned (.tuple #[.int .i64 p, .int .i64 q]) /\ Grown W w' := by
  have L : looksD n h first rows = (first, first + rows) := by unfold looksD; simp [ho]
  rw [L] at hp hq
  have c1 : (n.op == 1) = false := by rw [ho]; decide
  have c2 : (n.op == 2) = false := by rw [ho]; decide
  have c4 : (n.op == 4) = false := by rw [ho]; decide
  have c5 : (n.op == 5) = false := by rw [ho]; decide
  have c9 : (n.op == 9) = false := by rw [ho]; decide
  have c3 : (n.op == 3) = false := by rw [ho]; decide
  have c11 : (n.op == 11) = false := by rw [ho]; decide
  clear ho L
  have hp' : p = first := hp.out
  have hq' : q = first + rows := hq.out
  have e1 : IntKind.i64.wrap (first + rows) = first + rows := IntWalk.i64_in _ (by omega)
  clear hp hq
  subst hp' hq'
  go_enter Tryz.func83, Tryz.ntmps83
  go_upto_region 1 with fail
  refine opq (fun w' => (Bx w' (W.heap.size) #[.int .i64 n.op, vi, .int .i64 n.k, .int .i64 n.stride, .int .i64 n.pad, .int .i64 n.out, .int .i64 n.mul, .int .i64 n.shift, .int .i64 n.zero, .int .i64 n.th, .int .i64 n.tw, .int .i64 n.tc, vw, vb, lv, .int .i64 m.1, .int .i64 m.2.1, .int .i64 m.2.2]) /\ Grown W w' /\ W.heap.size + 1 <= w'.heap.size) kLaid ?_
  rintro W1 ⟨bt, g1, z1⟩
  go_wp2_with fail
  go_ret2
  exact ⟨rfl, g1⟩
theorem looks_8 (ho : n.op = 8) (f0 : 0 <= first) (f1 : first <= 16) (r0 : 1 <= rows) (r1 : rows <= 16) (hp : Hid (p = (looksD n h first rows).1)) (hq : Hid (q = (looksD n h first rows).2)) :
    Calls Tryz.prog 83 #[.agg #[.int .i64 n.op, vi, .int .i64 n.k, .int .i64 n.stride, .int .i64 n.pad, .int .i64 n.out, .int .i64 n.mul, .int .i64 n.shift, .int .i64 n.zero, .int .i64 n.th, .int .i64 n.tw, .int .i64 n.tc, vw, vb, lv, .int .i64 m.1, .int .i64 m.2.1, .int .i64 m.2.2], .int .i64 h, .int .i64 first, .int .i64 rows] W fun e w' => e = .returned (.tuple #[.int .i64 p, .int .i64 q]) /\ Grown W w' := by
  have L : looksD n h first rows = (first, first + rows) := by unfold looksD; simp [ho]
  rw [L] at hp hq
  have c1 : (n.op == 1) = false := by rw [ho]; decide
  have c2 : (n.op == 2) = false := by rw [ho]; decide
  have c4 : (n.op == 4) = false := by rw [ho]; decide
  have c5 : (n.op == 5) = false := by rw [ho]; decide
  have c9 : (n.op == 9) = false := by rw [ho]; decide
  have c3 : (n.op == 3) = false := by rw [ho]; decide
  have c11 : (n.op == 11) = false := by rw [ho]; decide
  clear ho L
  have hp' : p = first := hp.out
  have hq' : q = first + rows := hq.out
  have e1 : IntKind.i64.wrap (first + rows) = first + rows := IntWalk.i64_in _ (by omega)
  clear hp hq
  subst hp' hq'
  go_enter Tryz.func83, Tryz.ntmps83
  go_upto_region 1 with fail
  refine opq (fun w' => (Bx w' (W.heap.size) #[.int .i64 n.op, vi, .int .i64 n.k, .int .i64 n.stride, .int .i64 n.pad, .int .i64 n.out, .int .i64 n.mul, .int .i64 n.shift, .int .i64 n.zero, .int .i64 n.th, .int .i64 n.tw, .int .i64 n.tc, vw, vb, lv, .int .i64 m.1, .int .i64 m.2.1, .int .i64 m.2.2]) /\ Grown W w' /\ W.heap.size + 1 <= w'.heap.size) kLaid ?_
  rintro W1 ⟨bt, g1, z1⟩
  go_wp2_with fail
  go_ret2
  exact ⟨rfl, g1⟩
theorem looks_9 (ho : n.op = 9) (f0 : 0 <= first) (f1 : first <= 16) (r0 : 1 <= rows) (r1 : rows <= 16) (hp : Hid (p = (looksD n h first rows).1)) (hq : Hid (q = (looksD n h first rows).2)) :
    Calls Tryz.prog 83 #[.agg #[.int .i64 n.op, vi, .int .i64 n.k, .int .i64 n.stride, .int .i64 n.pad, .int .i64 n.out, .int .i64 n.mul, .int .i64 n.shift, .int .i64 n.zero, .int .i64 n.th, .int .i64 n.tw, .int .i64 n.tc, vw, vb, lv, .int .i64 m.1, .int .i64 m.2.1, .int .i64 m.2.2], .int .i64 h, .int .i64 first, .int .i64 rows] W fun e w' => e = .returned (.tuple #[.int .i64 p, .int .i64 q]) /\ Grown W w' := by
  have L : looksD n h first rows = reachI first rows 1 1 n.pad h := by unfold looksD; simp [ho]
  rw [L] at hp hq
  have c1 : (n.op == 1) = false := by rw [ho]; decide
  have c2 : (n.op == 2) = false := by rw [ho]; decide
  have c4 : (n.op == 4) = false := by rw [ho]; decide
  have c5 : (n.op == 5) = false := by rw [ho]; decide
  have c9 : (n.op == 9) = true := by rw [ho]; decide
  clear ho L
  go_enter Tryz.func83, Tryz.ntmps83
  go_upto_region 1 with fail
  refine opq (fun w' => (Bx w' (W.heap.size) #[.int .i64 n.op, vi, .int .i64 n.k, .int .i64 n.stride, .int .i64 n.pad, .int .i64 n.out, .int .i64 n.mul, .int .i64 n.shift, .int .i64 n.zero, .int .i64 n.th, .int .i64 n.tw, .int .i64 n.tc, vw, vb, lv, .int .i64 m.1, .int .i64 m.2.1, .int .i64 m.2.2]) /\ Grown W w' /\ W.heap.size + 1 <= w'.heap.size) kLaid ?_
  rintro W1 ⟨bt, g1, z1⟩
  go_wp2_with fail
  refine (reach_any first rows 1 1 n.pad h p q _ (by omega) (by omega) hp hq).mono ?_
  rintro e w2 ⟨rfl, g2⟩
  go_wp2_with fail
  go_ret2
  exact ⟨rfl, grown_trans g1 g2⟩
theorem looks_10 (ho : n.op = 10) (f0 : 0 <= first) (f1 : first <= 16) (r0 : 1 <= rows) (r1 : rows <= 16) (hp : Hid (p = (looksD n h first rows).1)) (hq : Hid (q = (looksD n h first rows).2)) :
    Calls Tryz.prog 83 #[.agg #[.int .i64 n.op, vi, .int .i64 n.k, .int .i64 n.stride, .int .i64 n.pad, .int .i64 n.out, .int .i64 n.mul, .int .i64 n.shift, .int .i64 n.zero, .int .i64 n.th, .int .i64 n.tw, .int .i64 n.tc, vw, vb, lv, .int .i64 m.1, .int .i64 m.2.1, .int .i64 m.2.2], .int .i64 h, .int .i64 first, .int .i64 rows] W fun e w' => e = .returned (.tuple #[.int .i64 p, .int .i64 q]) /\ Grown W w' := by
  have L : looksD n h first rows = (first, first + rows) := by unfold looksD; simp [ho]
  rw [L] at hp hq
  have c1 : (n.op == 1) = false := by rw [ho]; decide
  have c2 : (n.op == 2) = false := by rw [ho]; decide
  have c4 : (n.op == 4) = false := by rw [ho]; decide
  have c5 : (n.op == 5) = false := by rw [ho]; decide
  have c9 : (n.op == 9) = false := by rw [ho]; decide
  have c3 : (n.op == 3) = false := by rw [ho]; decide
  have c11 : (n.op == 11) = false := by rw [ho]; decide
  clear ho L
  have hp' : p = first := hp.out
  have hq' : q = first + rows := hq.out
  have e1 : IntKind.i64.wrap (first + rows) = first + rows := IntWalk.i64_in _ (by omega)
  clear hp hq
  subst hp' hq'
  go_enter Tryz.func83, Tryz.ntmps83
  go_upto_region 1 with fail
  refine opq (fun w' => (Bx w' (W.heap.size) #[.int .i64 n.op, vi, .int .i64 n.k, .int .i64 n.stride, .int .i64 n.pad, .int .i64 n.out, .int .i64 n.mul, .int .i64 n.shift, .int .i64 n.zero, .int .i64 n.th, .int .i64 n.tw, .int .i64 n.tc, vw, vb, lv, .int .i64 m.1, .int .i64 m.2.1, .int .i64 m.2.2]) /\ Grown W w' /\ W.heap.size + 1 <= w'.heap.size) kLaid ?_
  rintro W1 ⟨bt, g1, z1⟩
  go_wp2_with fail
  go_ret2
  exact ⟨rfl, g1⟩
theorem looks_11 (ho : n.op = 11) (f0 : 0 <= first) (f1 : first <= 16) (r0 : 1 <= rows) (r1 : rows <= 16) (hp : Hid (p = (looksD n h first rows).1)) (hq : Hid (q = (looksD n h first rows).2)) :
    Calls Tryz.prog 83 #[.agg #[.int .i64 n.op, vi, .int .i64 n.k, .int .i64 n.stride, .int .i64 n.pad, .int .i64 n.out, .int .i64 n.mul, .int .i64 n.shift, .int .i64 n.zero, .int .i64 n.th, .int .i64 n.tw, .int .i64 n.tc, vw, vb, lv, .int .i64 m.1, .int .i64 m.2.1, .int .i64 m.2.2], .int .i64 h, .int .i64 first, .int .i64 rows] W fun e w' => e = .returned (.tuple #[.int .i64 p, .int .i64 q]) /\ Grown W w' := by
  have L : looksD n h first rows = ((0 : Int), h) := by unfold looksD; simp [ho]
  rw [L] at hp hq
  have c1 : (n.op == 1) = false := by rw [ho]; decide
  have c2 : (n.op == 2) = false := by rw [ho]; decide
  have c4 : (n.op == 4) = false := by rw [ho]; decide
  have c5 : (n.op == 5) = false := by rw [ho]; decide
  have c9 : (n.op == 9) = false := by rw [ho]; decide
  have c3 : (n.op == 3) = false := by rw [ho]; decide
  have c11 : (n.op == 11) = true := by rw [ho]; decide
  clear ho L
  have hp' : p = 0 := hp.out
  have hq' : q = h := hq.out
  clear hp hq
  subst hp' hq'
  go_enter Tryz.func83, Tryz.ntmps83
  go_upto_region 1 with fail
  refine opq (fun w' => (Bx w' (W.heap.size) #[.int .i64 n.op, vi, .int .i64 n.k, .int .i64 n.stride, .int .i64 n.pad, .int .i64 n.out, .int .i64 n.mul, .int .i64 n.shift, .int .i64 n.zero, .int .i64 n.th, .int .i64 n.tw, .int .i64 n.tc, vw, vb, lv, .int .i64 m.1, .int .i64 m.2.1, .int .i64 m.2.2]) /\ Grown W w' /\ W.heap.size + 1 <= w'.heap.size) kLaid ?_
  rintro W1 ⟨bt, g1, z1⟩
  go_wp2_with fail
  go_ret2
  exact ⟨rfl, g1⟩
theorem looks_12 (ho : n.op = 12) (f0 : 0 <= first) (f1 : first <= 16) (r0 : 1 <= rows) (r1 : rows <= 16) (hp : Hid (p = (looksD n h first rows).1)) (hq : Hid (q = (looksD n h first rows).2)) :
    Calls Tryz.prog 83 #[.agg #[.int .i64 n.op, vi, .int .i64 n.k, .int .i64 n.stride, .int .i64 n.pad, .int .i64 n.out, .int .i64 n.mul, .int .i64 n.shift, .int .i64 n.zero, .int .i64 n.th, .int .i64 n.tw, .int .i64 n.tc, vw, vb, lv, .int .i64 m.1, .int .i64 m.2.1, .int .i64 m.2.2], .int .i64 h, .int .i64 first, .int .i64 rows] W fun e w' => e = .returned (.tuple #[.int .i64 p, .int .i64 q]) /\ Grown W w' := by
  have L : looksD n h first rows = (first, first + rows) := by unfold looksD; simp [ho]
  rw [L] at hp hq
  have c1 : (n.op == 1) = false := by rw [ho]; decide
  have c2 : (n.op == 2) = false := by rw [ho]; decide
  have c4 : (n.op == 4) = false := by rw [ho]; decide
  have c5 : (n.op == 5) = false := by rw [ho]; decide
  have c9 : (n.op == 9) = false := by rw [ho]; decide
  have c3 : (n.op == 3) = false := by rw [ho]; decide
  have c11 : (n.op == 11) = false := by rw [ho]; decide
  clear ho L
  have hp' : p = first := hp.out
  have hq' : q = first + rows := hq.out
  have e1 : IntKind.i64.wrap (first + rows) = first + rows := IntWalk.i64_in _ (by omega)
  clear hp hq
  subst hp' hq'
  go_enter Tryz.func83, Tryz.ntmps83
  go_upto_region 1 with fail
  refine opq (fun w' => (Bx w' (W.heap.size) #[.int .i64 n.op, vi, .int .i64 n.k, .int .i64 n.stride, .int .i64 n.pad, .int .i64 n.out, .int .i64 n.mul, .int .i64 n.shift, .int .i64 n.zero, .int .i64 n.th, .int .i64 n.tw, .int .i64 n.tc, vw, vb, lv, .int .i64 m.1, .int .i64 m.2.1, .int .i64 m.2.2]) /\ Grown W w' /\ W.heap.size + 1 <= w'.heap.size) kLaid ?_
  rintro W1 ⟨bt, g1, z1⟩
  go_wp2_with fail
  go_ret2
  exact ⟨rfl, g1⟩
theorem looks_any (ho : hasOp n.op) (f0 : 0 <= first) (f1 : first <= 16) (r0 : 1 <= rows) (r1 : rows <= 16) (hp : Hid (p = (looksD n h first rows).1)) (hq : Hid (q = (looksD n h first rows).2)) :
    Calls Tryz.prog 83 #[.agg #[.int .i64 n.op, vi, .int .i64 n.k, .int .i64 n.stride, .int .i64 n.pad, .int .i64 n.out, .int .i64 n.mul, .int .i64 n.shift, .int .i64 n.zero, .int .i64 n.th, .int .i64 n.tw, .int .i64 n.tc, vw, vb, lv, .int .i64 m.1, .int .i64 m.2.1, .int .i64 m.2.2], .int .i64 h, .int .i64 first, .int .i64 rows] W fun e w' => e = .returned (.tuple #[.int .i64 p, .int .i64 q]) /\ Grown W w' := by
  obtain ⟨o1, o2⟩ := ho
  rcases (show n.op = 1 ∨ n.op = 2 ∨ n.op = 3 ∨ n.op = 4 ∨ n.op = 5 ∨ n.op = 6 ∨ n.op = 7 ∨ n.op = 8 ∨ n.op = 9 ∨ n.op = 10 ∨ n.op = 11 ∨ n.op = 12 by omega) with c | c | c | c | c | c | c | c | c | c | c | c
  . exact looks_1 c f0 f1 r0 r1 hp hq
  . exact looks_2 c f0 f1 r0 r1 hp hq
  . exact looks_3 c f0 f1 r0 r1 hp hq
  . exact looks_4 c f0 f1 r0 r1 hp hq
  . exact looks_5 c f0 f1 r0 r1 hp hq
  . exact looks_6 c f0 f1 r0 r1 hp hq
  . exact looks_7 c f0 f1 r0 r1 hp hq
  . exact looks_8 c f0 f1 r0 r1 hp hq
  . exact looks_9 c f0 f1 r0 r1 hp hq
  . exact looks_10 c f0 f1 r0 r1 hp hq
  . exact looks_11 c f0 f1 r0 r1 hp hq
  . exact looks_12 c f0 f1 r0 r1 hp hq
end
def NeedsAt (n : NodeD) (vs : List ValD) (first rows : Int) (k : Nat) (p0 p1 q0 q1 : Int) : Prop :=
  (k = 0 -> p0 = 0 /\ p1 = 0) /\ (1 <= k -> p0 = (looksD n (vs.getD 0 default).h first rows).1 /\ p1 = (looksD n (vs.getD 0 default).h first rows).2) /\
  (k <= 1 -> q0 = 0 /\ q1 = 0) /\ (2 <= k -> q0 = (looksD n (vs.getD 1 default).h first rows).1 /\ q1 = (looksD n (vs.getD 1 default).h first rows).2)
theorem box4_at {w : World} {b : Nat} {x0 x1 x2 x3 y z : Value} (h : (Bx w b #[x0, x1, x2, x3])) : (Bx ((w.setCell ⟨b, 0, none⟩ y).setCell ⟨b, 1, none⟩ z) b #[y, z, x2, x3]) := by
  have c0 : (w.setCell ⟨b, 0, none⟩ y).cell? ⟨b, 1, none⟩ = some x1 := by rw [World.cell?_setCell_other _ _ _ _ (by simp)]; exact h 1
  intro o
  match o with
  | 0 => rw [World.cell?_setCell_other _ _ _ _ (by simp)]; exact World.cell?_setCell_same w _ _ (h 0)
  | 1 => exact World.cell?_setCell_same _ _ _ c0
  | 2 => rw [World.cell?_setCell_other _ _ _ _ (by simp), World.cell?_setCell_other _ _ _ _ (by simp)]; exact h 2
  | 3 => rw [World.cell?_setCell_other _ _ _ _ (by simp), World.cell?_setCell_other _ _ _ _ (by simp)]; exact h 3
  | k + 4 => rw [World.cell?_setCell_other _ _ _ _ (by simp), World.cell?_setCell_other _ _ _ _ (by simp)]; have := h (k + 4); simpa using this
theorem box4_on {w : World} {b : Nat} {x0 x1 x2 x3 y z : Value} (h : (Bx w b #[x0, x1, x2, x3])) : (Bx ((w.setCell ⟨b, 2, none⟩ y).setCell ⟨b, 3, none⟩ z) b #[x0, x1, y, z]) := by
  have c0 : (w.setCell ⟨b, 2, none⟩ y).cell? ⟨b, 3, none⟩ = some x3 := by rw [World.cell?_setCell_other _ _ _ _ (by simp)]; exact h 3
  intro o
  match o with
  | 0 => rw [World.cell?_setCell_other _ _ _ _ (by simp), World.cell?_setCell_other _ _ _ _ (by simp)]; exact h 0
  | 1 => rw [World.cell?_setCell_other _ _ _ _ (by simp), World.cell?_setCell_other _ _ _ _ (by simp)]; exact h 1
  | 2 => rw [World.cell?_setCell_other _ _ _ _ (by simp)]; exact World.cell?_setCell_same w _ _ (h 2)
  | 3 => exact World.cell?_setCell_same _ _ _ c0
  | k + 4 => rw [World.cell?_setCell_other _ _ _ _ (by simp), World.cell?_setCell_other _ _ _ _ (by simp)]; have := h (k + 4); simpa using this
theorem NeedsAt.one {n : NodeD} {vs : List ValD} {first rows p0 p1 q0 q1 p q : Int} (h : NeedsAt n vs first rows 0 p0 p1 q0 q1) (hp : p = (looksD n (vs.getD 0 default).h first rows).1) (hq : q = (looksD n (vs.getD 0 default).h first rows).2) : NeedsAt n vs first rows 1 p q q0 q1 :=
  ⟨fun e => by omega, fun _ => ⟨hp, hq⟩, fun _ => h.2.2.1 (by omega), fun e => by omega⟩
theorem NeedsAt.two {n : NodeD} {vs : List ValD} {first rows p0 p1 q0 q1 p q : Int} (h : NeedsAt n vs first rows 1 p0 p1 q0 q1) (hp : p = (looksD n (vs.getD 1 default).h first rows).1) (hq : q = (looksD n (vs.getD 1 default).h first rows).2) : NeedsAt n vs first rows 2 p0 p1 p q :=
  ⟨fun e => by omega, fun _ => h.2.1 (by omega), fun e => by omega, fun _ => ⟨hp, hq⟩⟩
theorem box4_c0 {w : World} {b : Nat} {x0 x1 x2 x3 y : Value} (h : (Bx w b #[x0, x1, x2, x3])) : (Bx (w.setCell ⟨b, 0, none⟩ y) b #[y, x1, x2, x3]) := by
  intro o
  match o with
  | 0 => exact World.cell?_setCell_same w _ _ (h 0)
  | 1 => rw [World.cell?_setCell_other _ _ _ _ (by simp)]; exact h 1
  | 2 => rw [World.cell?_setCell_other _ _ _ _ (by simp)]; exact h 2
  | 3 => rw [World.cell?_setCell_other _ _ _ _ (by simp)]; exact h 3
  | k + 4 => rw [World.cell?_setCell_other _ _ _ _ (by simp)]; have := h (k + 4); simpa using this
theorem box4_c1 {w : World} {b : Nat} {x0 x1 x2 x3 y : Value} (h : (Bx w b #[x0, x1, x2, x3])) : (Bx (w.setCell ⟨b, 1, none⟩ y) b #[x0, y, x2, x3]) := by
  intro o
  match o with
  | 0 => rw [World.cell?_setCell_other _ _ _ _ (by simp)]; exact h 0
  | 1 => exact World.cell?_setCell_same w _ _ (h 1)
  | 2 => rw [World.cell?_setCell_other _ _ _ _ (by simp)]; exact h 2
  | 3 => rw [World.cell?_setCell_other _ _ _ _ (by simp)]; exact h 3
  | k + 4 => rw [World.cell?_setCell_other _ _ _ _ (by simp)]; have := h (k + 4); simpa using this
theorem box4_c2 {w : World} {b : Nat} {x0 x1 x2 x3 y : Value} (h : (Bx w b #[x0, x1, x2, x3])) : (Bx (w.setCell ⟨b, 2, none⟩ y) b #[x0, x1, y, x3]) := by
  intro o
  match o with
  | 0 => rw [World.cell?_setCell_other _ _ _ _ (by simp)]; exact h 0
  | 1 => rw [World.cell?_setCell_other _ _ _ _ (by simp)]; exact h 1
  | 2 => exact World.cell?_setCell_same w _ _ (h 2)
  | 3 => rw [World.cell?_setCell_other _ _ _ _ (by simp)]; exact h 3
  | k + 4 => rw [World.cell?_setCell_other _ _ _ _ (by simp)]; have := h (k + 4); simpa using this
theorem box4_c3 {w : World} {b : Nat} {x0 x1 x2 x3 y : Value} (h : (Bx w b #[x0, x1, x2, x3])) : (Bx (w.setCell ⟨b, 3, none⟩ y) b #[x0, x1, x2, y]) := by
  intro o
  match o with
  | 0 => rw [World.cell?_setCell_other _ _ _ _ (by simp)]; exact h 0
  | 1 => rw [World.cell?_setCell_other _ _ _ _ (by simp)]; exact h 1
  | 2 => rw [World.cell?_setCell_other _ _ _ _ (by simp)]; exact h 2
  | 3 => exact World.cell?_setCell_same w _ _ (h 3)
  | k + 4 => rw [World.cell?_setCell_other _ _ _ _ (by simp)]; have := h (k + 4); simpa using this
theorem A4 : (Tryz.prog.info? 81).map (·.size) = some 4 := by kernel_rfl
set_option maxHeartbeats 4000000 in
theorem needs_ok (n : NodeD) (vi vw vb lv : Value) (vs : List ValD) (m : Int × Int × Int) (first rows : Int) (W : World) (hl : IsVals W lv vs) (ho : hasOp n.op) (l1 : 1 <= vs.length) (l2 : vs.length <= 2) (m1 : 1 <= m.1 /\ m.1 <= 16) (f0 : 0 <= first) (r1 : 1 <= rows) (r2 : rows <= m.1 - first) :
    Calls Tryz.prog 57 #[.agg #[.int .i64 n.op, vi, .int .i64 n.k, .int .i64 n.stride, .int .i64 n.pad, .int .i64 n.out, .int .i64 n.mul, .int .i64 n.shift, .int .i64 n.zero, .int .i64 n.th, .int .i64 n.tw, .int .i64 n.tc, vw, vb, lv, .int .i64 m.1, .int .i64 m.2.1, .int .i64 m.2.2], .int .i64 first, .int .i64 rows] W fun e w' => ∃ p0 p1 q0 q1, e = .returned (.tuple #[.agg #[.int .i64 p0, .int .i64 p1, .int .i64 q0, .int .i64 q1], .int .i64 0]) /\ NeedsAt n vs first rows vs.length p0 p1 q0 q1 /\ Grown W w' := by
  obtain ⟨A1, c1, rfl, a1, a2, _, a4, a5⟩ := hl
  obtain ⟨lb, lo, rfl, hlb, hlc⟩ := a5 (by omega)
  have HC := Lib.hid hlc
  have k1 : vs.length <= 9223372036854775807 := by unfold maxLen at a2; omega
  have t1 : decide (first < 0) = false := by simp; omega
  have t2 : decide (rows < 1) = false := by simp; omega
  have t3 : decide (m.1 - first < rows) = false := by simp; omega
  have e1 : IntKind.i64.wrap (m.1 - first) = m.1 - first := IntWalk.i64_in _ (by omega)
  have LK := Lib.hid (fun (h p q : Int) (hp : Hid (p = (looksD n h first rows).1)) (hq : Hid (q = (looksD n h first rows).2)) w => looks_any (n := n) (vi := vi) (vw := vw) (vb := vb) (lv := .slice (some ⟨lb, lo, none⟩) vs.length c1) (m := m) (W := w) ho f0 (by omega) r1 (by omega) hp hq)
  clear a2 a4 a5 hlc ho r2
  go_enter Tryz.func57, Tryz.ntmps57
  go_upto_region 1 with fail
  refine opq (fun w' => (Bx w' (W.heap.size) #[.int .i64 n.op, vi, .int .i64 n.k, .int .i64 n.stride, .int .i64 n.pad, .int .i64 n.out, .int .i64 n.mul, .int .i64 n.shift, .int .i64 n.zero, .int .i64 n.th, .int .i64 n.tw, .int .i64 n.tc, vw, vb, .slice (some ⟨lb, lo, none⟩) vs.length c1, .int .i64 m.1, .int .i64 m.2.1, .int .i64 m.2.2]) /\ (Bx w' (W.heap.size + 1) #[.int .i64 0, .int .i64 0, .int .i64 0, .int .i64 0]) /\ (Fr w' (W.heap.size + 1)) /\ Grown W w' /\ W.heap.size + 2 <= w'.heap.size) kLaid ?_
  rintro W1 ⟨bt, b6, f6, g1, z1⟩
  go_upto_region 4 with fail
  refine opq (fun w' => (Bx w' (W.heap.size) #[.int .i64 n.op, vi, .int .i64 n.k, .int .i64 n.stride, .int .i64 n.pad, .int .i64 n.out, .int .i64 n.mul, .int .i64 n.shift, .int .i64 n.zero, .int .i64 n.th, .int .i64 n.tw, .int .i64 n.tc, vw, vb, .slice (some ⟨lb, lo, none⟩) vs.length c1, .int .i64 m.1, .int .i64 m.2.1, .int .i64 m.2.2]) /\ (Bx w' (W.heap.size + 1) #[.int .i64 0, .int .i64 0, .int .i64 0, .int .i64 0]) /\ (Fr w' (W.heap.size + 1)) /\ (Bx w' (W1.heap.size) #[.int .i64 0, .int .i64 0, .int .i64 0, .int .i64 0]) /\ (Fr w' (W1.heap.size)) /\ Grown W w' /\ W1.heap.size + 1 <= w'.heap.size) kKeepS ?_
  rintro W2 ⟨bt, b6, f6, b8, f8, g2, z2⟩
  obtain ⟨P8, hP8⟩ : ∃ P8, W1.heap.size = P8 := ⟨_, rfl⟩
  rw [hP8] at b8 f8 z2 z1
  rw [hP8]
  clear hP8 g1
  go_wp2_with fail
  go_loopw [30] (fun i wr => ∃ (k : Nat) (p0 p1 q0 q1 : Int), k <= vs.length /\ i = .int .i64 k /\ Hid (NeedsAt n vs first rows k p0 p1 q0 q1) /\ (Bx wr (W.heap.size) #[.int .i64 n.op, vi, .int .i64 n.k, .int .i64 n.stride, .int .i64 n.pad, .int .i64 n.out, .int .i64 n.mul, .int .i64 n.shift, .int .i64 n.zero, .int .i64 n.th, .int .i64 n.tw, .int .i64 n.tc, vw, vb, .slice (some ⟨lb, lo, none⟩) vs.length c1, .int .i64 m.1, .int .i64 m.2.1, .int .i64 m.2.2]) /\ (Bx wr (W.heap.size + 1) #[.int .i64 0, .int .i64 0, .int .i64 0, .int .i64 0]) /\ (Fr wr (W.heap.size + 1)) /\ (Bx wr P8 #[.int .i64 p0, .int .i64 p1, .int .i64 q0, .int .i64 q1]) /\ (Fr wr P8) /\ Grown W wr /\ P8 + 1 <= wr.heap.size) (fun i _ => vs.length - (intOf i).toNat)
  case atStart => exact ⟨0, 0, 0, 0, 0, by omega, rfl, Lib.hid ⟨fun _ => ⟨rfl, rfl⟩, fun h => by omega, fun _ => ⟨rfl, rfl⟩, fun h => by omega⟩, bt, b6, f6, b8, f8, g2, z2⟩
  case round =>
    clear bt b6 f6 b8 f8 g2 z2
    obtain ⟨k, p0, p1, q0, q1, hk, rfl, hn, bt, b6, f6, b8, f8, g2, z2⟩ := hrel
    by_cases h : k < vs.length
    . obtain ⟨y0, y1, y2, y3⟩ := (HC.out k h).grow hlb (Grown.past g2)
      have hlb2 : lb < wr.heap.size := Nat.lt_of_lt_of_le hlb g2.2.2
      obtain ⟨x, hx⟩ : ∃ x, vs.getD k default = x := ⟨_, rfl⟩
      rw [hx] at y0 y1 y2 y3
      have HX := Lib.hid hx
      clear hx
      obtain ⟨p, hp⟩ : ∃ p, Hid (p = (looksD n x.h first rows).1) := ⟨_, Lib.hid rfl⟩
      obtain ⟨q, hq⟩ : ∃ q, Hid (q = (looksD n x.h first rows).2) := ⟨_, Lib.hid rfl⟩
      go_upto_region 7 with fail
      refine opq (fun w' => (Bx w' (W.heap.size) #[.int .i64 n.op, vi, .int .i64 n.k, .int .i64 n.stride, .int .i64 n.pad, .int .i64 n.out, .int .i64 n.mul, .int .i64 n.shift, .int .i64 n.zero, .int .i64 n.th, .int .i64 n.tw, .int .i64 n.tc, vw, vb, .slice (some ⟨lb, lo, none⟩) vs.length c1, .int .i64 m.1, .int .i64 m.2.1, .int .i64 m.2.2]) /\ (Bx w' (W.heap.size + 1) #[.int .i64 0, .int .i64 0, .int .i64 0, .int .i64 0]) /\ (Fr w' (W.heap.size + 1)) /\ (Bx w' P8 #[.int .i64 p0, .int .i64 p1, .int .i64 q0, .int .i64 q1]) /\ (Fr w' P8) /\ (Bx w' (wr.heap.size) #[.int .i64 x.h, .int .i64 x.w, .int .i64 x.c, .int .i64 x.z]) /\ Grown W w' /\ wr.heap.size + 1 <= w'.heap.size) kKeepS ?_
      rintro w4 ⟨bt, b6, f6, b8, f8, b10, g2, z4⟩
      obtain ⟨P10, hP10⟩ : ∃ P10, wr.heap.size = P10 := ⟨_, rfl⟩
      rw [hP10] at b10 z4 z2
      rw [hP10]
      clear hP10 y0 y1 y2 y3 hlb2
      rcases (show k = 0 ∨ k = 1 by omega) with rfl | rfl
      . have LK1 := Lib.hid (fun w => LK.out x.h p q hp hq w)
        refine wp_region_stage [14, 17] [fun w' => (Bx w' (W.heap.size) #[.int .i64 n.op, vi, .int .i64 n.k, .int .i64 n.stride, .int .i64 n.pad, .int .i64 n.out, .int .i64 n.mul, .int .i64 n.shift, .int .i64 n.zero, .int .i64 n.th, .int .i64 n.tw, .int .i64 n.tc, vw, vb, .slice (some ⟨lb, lo, none⟩) vs.length c1, .int .i64 m.1, .int .i64 m.2.1, .int .i64 m.2.2]) /\ (Bx w' (W.heap.size + 1) #[.int .i64 0, .int .i64 0, .int .i64 0, .int .i64 0]) /\ (Fr w' (W.heap.size + 1)) /\ (Bx w' P8 #[.int .i64 p0, .int .i64 p1, .int .i64 q0, .int .i64 q1]) /\ (Fr w' P8) /\ (Bx w' P10 #[.int .i64 x.h, .int .i64 x.w, .int .i64 x.c, .int .i64 x.z]) /\ Grown W w' /\ P10 + 1 <= w'.heap.size, fun w' => (Bx w' (W.heap.size) #[.int .i64 n.op, vi, .int .i64 n.k, .int .i64 n.stride, .int .i64 n.pad, .int .i64 n.out, .int .i64 n.mul, .int .i64 n.shift, .int .i64 n.zero, .int .i64 n.th, .int .i64 n.tw, .int .i64 n.tc, vw, vb, .slice (some ⟨lb, lo, none⟩) vs.length c1, .int .i64 m.1, .int .i64 m.2.1, .int .i64 m.2.2]) /\ (Bx w' (W.heap.size + 1) #[.int .i64 0, .int .i64 0, .int .i64 0, .int .i64 0]) /\ (Fr w' (W.heap.size + 1)) /\ (Bx w' P8 #[.int .i64 p, .int .i64 p1, .int .i64 q0, .int .i64 q1]) /\ (Fr w' P8) /\ (Bx w' P10 #[.int .i64 x.h, .int .i64 x.w, .int .i64 x.c, .int .i64 x.z]) /\ Grown W w' /\ P10 + 1 <= w'.heap.size, fun w' => (Bx w' (W.heap.size) #[.int .i64 n.op, vi, .int .i64 n.k, .int .i64 n.stride, .int .i64 n.pad, .int .i64 n.out, .int .i64 n.mul, .int .i64 n.shift, .int .i64 n.zero, .int .i64 n.th, .int .i64 n.tw, .int .i64 n.tc, vw, vb, .slice (some ⟨lb, lo, none⟩) vs.length c1, .int .i64 m.1, .int .i64 m.2.1, .int .i64 m.2.2]) /\ (Bx w' (W.heap.size + 1) #[.int .i64 0, .int .i64 0, .int .i64 0, .int .i64 0]) /\ (Fr w' (W.heap.size + 1)) /\ (Bx w' P8 #[.int .i64 p, .int .i64 q, .int .i64 q0, .int .i64 q1]) /\ (Fr w' P8) /\ (Bx w' P10 #[.int .i64 x.h, .int .i64 x.w, .int .i64 x.c, .int .i64 x.z]) /\ Grown W w' /\ P10 + 1 <= w'.heap.size] [(36, ?va36), (37, ?va37), (38, ?va38), (39, ?va39), (40, ?va40), (41, ?va41), (42, ?va42), (43, ?va43), (44, ?va44), (35, ?va35), (45, ?va45), (46, ?va46), (47, ?va47), (48, ?va48), (49, ?va49), (50, ?va50)] [36, 37, 38, 39, 40, 41, 42, 43, 44, 35, 45, 46, 47, 48, 49, 50] (by kernel_rfl) (by kernel_rfl) rfl (by kernel_rfl) ⟨bt, b6, f6, b8, f8, b10, g2, z4⟩ (fun w h => h) ?alla ?fora ?fina
        case alla =>
          simp only [fillA, Act.put, fU1, fU2, fU3]
          refine ⟨?_, ?_, ?_, True.intro⟩
          all_goals (iterate 18 (first | refine pass rfl ?_ | (refine abides_load rfl 77 (.tmp 3) rfl (W.heap.size) #[.int .i64 n.op, vi, .int .i64 n.k, .int .i64 n.stride, .int .i64 n.pad, .int .i64 n.out, .int .i64 n.mul, .int .i64 n.shift, .int .i64 n.zero, .int .i64 n.th, .int .i64 n.tw, .int .i64 n.tc, vw, vb, .slice (some ⟨lb, lo, none⟩) vs.length c1, .int .i64 m.1, .int .i64 m.2.1, .int .i64 m.2.2] rfl (fun w h => by (try go_split_ands); assumption) Tryz.underlying77 rfl T18 (by simp only [Act.put, List.setIfInBounds_toArray, List.set_cons_zero, List.set_cons_succ] <;> rfl) ?_) | (refine abides (fun w hw K hK => ?_) ?_; focus ((have hS := Lib.hid hw); go_split_ands; go_simp; (try simp only [Act.put, List.setIfInBounds_toArray, List.set_cons_zero, List.set_cons_succ]); first | exact hK _ hS.out | ((((with_reducible refine (LK1.out _).mono ?_); rintro e w6 ⟨rfl, gg⟩)); refine hK _ ?_; (exact kKeepS))))))
          all_goals exact True.intro
        case fora =>
          simp only [fillA, Act.put, fU1, fU2, fU3]
          refine turns rfl (fun w hw K hK => ?_) (turns rfl (fun w hw K hK => ?_) True.intro)
          . obtain ⟨bt, b6, f6, b8, f8, b10, g2, z4⟩ := hw
            go_simp
            refine hK _ ⟨by (exact kKeepS), by (exact kKeepS), by (exact kKeepS), box4_c0 b8, by (exact kKeepS), by (exact kKeepS), by (exact kKeepS), by (exact kKeepS)⟩
          . obtain ⟨bt, b6, f6, b8, f8, b10, g2, z4⟩ := hw
            go_simp
            refine hK _ ⟨by (exact kKeepS), by (exact kKeepS), by (exact kKeepS), box4_c1 b8, by (exact kKeepS), by (exact kKeepS), by (exact kKeepS), by (exact kKeepS)⟩
        case fina =>
          rintro w9 ⟨bt, b6, f6, b8, f8, b10, g9, z9⟩
          simp only [fillA, Act.put, fU1, fU2, fU3]
          go_wp2_with fail
          go_roundw
          case rel => exact ⟨1, p, q, q0, q1, by omega, by go_num, Lib.hid (NeedsAt.one hn.out (by rw [HX.out]; exact hp.out) (by rw [HX.out]; exact hq.out)), bt, b6, f6, b8, f8, g9, by omega⟩
          case measure => simp [intOf]; omega
      . have LK1 := Lib.hid (fun w => LK.out x.h p q hp hq w)
        refine wp_region_stage [14, 17] [fun w' => (Bx w' (W.heap.size) #[.int .i64 n.op, vi, .int .i64 n.k, .int .i64 n.stride, .int .i64 n.pad, .int .i64 n.out, .int .i64 n.mul, .int .i64 n.shift, .int .i64 n.zero, .int .i64 n.th, .int .i64 n.tw, .int .i64 n.tc, vw, vb, .slice (some ⟨lb, lo, none⟩) vs.length c1, .int .i64 m.1, .int .i64 m.2.1, .int .i64 m.2.2]) /\ (Bx w' (W.heap.size + 1) #[.int .i64 0, .int .i64 0, .int .i64 0, .int .i64 0]) /\ (Fr w' (W.heap.size + 1)) /\ (Bx w' P8 #[.int .i64 p0, .int .i64 p1, .int .i64 q0, .int .i64 q1]) /\ (Fr w' P8) /\ (Bx w' P10 #[.int .i64 x.h, .int .i64 x.w, .int .i64 x.c, .int .i64 x.z]) /\ Grown W w' /\ P10 + 1 <= w'.heap.size, fun w' => (Bx w' (W.heap.size) #[.int .i64 n.op, vi, .int .i64 n.k, .int .i64 n.stride, .int .i64 n.pad, .int .i64 n.out, .int .i64 n.mul, .int .i64 n.shift, .int .i64 n.zero, .int .i64 n.th, .int .i64 n.tw, .int .i64 n.tc, vw, vb, .slice (some ⟨lb, lo, none⟩) vs.length c1, .int .i64 m.1, .int .i64 m.2.1, .int .i64 m.2.2]) /\ (Bx w' (W.heap.size + 1) #[.int .i64 0, .int .i64 0, .int .i64 0, .int .i64 0]) /\ (Fr w' (W.heap.size + 1)) /\ (Bx w' P8 #[.int .i64 p0, .int .i64 p1, .int .i64 p, .int .i64 q1]) /\ (Fr w' P8) /\ (Bx w' P10 #[.int .i64 x.h, .int .i64 x.w, .int .i64 x.c, .int .i64 x.z]) /\ Grown W w' /\ P10 + 1 <= w'.heap.size, fun w' => (Bx w' (W.heap.size) #[.int .i64 n.op, vi, .int .i64 n.k, .int .i64 n.stride, .int .i64 n.pad, .int .i64 n.out, .int .i64 n.mul, .int .i64 n.shift, .int .i64 n.zero, .int .i64 n.th, .int .i64 n.tw, .int .i64 n.tc, vw, vb, .slice (some ⟨lb, lo, none⟩) vs.length c1, .int .i64 m.1, .int .i64 m.2.1, .int .i64 m.2.2]) /\ (Bx w' (W.heap.size + 1) #[.int .i64 0, .int .i64 0, .int .i64 0, .int .i64 0]) /\ (Fr w' (W.heap.size + 1)) /\ (Bx w' P8 #[.int .i64 p0, .int .i64 p1, .int .i64 p, .int .i64 q]) /\ (Fr w' P8) /\ (Bx w' P10 #[.int .i64 x.h, .int .i64 x.w, .int .i64 x.c, .int .i64 x.z]) /\ Grown W w' /\ P10 + 1 <= w'.heap.size] [(36, ?vb36), (37, ?vb37), (38, ?vb38), (39, ?vb39), (40, ?vb40), (41, ?vb41), (42, ?vb42), (43, ?vb43), (44, ?vb44), (35, ?vb35), (45, ?vb45), (46, ?vb46), (47, ?vb47), (48, ?vb48), (49, ?vb49), (50, ?vb50)] [36, 37, 38, 39, 40, 41, 42, 43, 44, 35, 45, 46, 47, 48, 49, 50] (by kernel_rfl) (by kernel_rfl) rfl (by kernel_rfl) ⟨bt, b6, f6, b8, f8, b10, g2, z4⟩ (fun w h => h) ?allb ?forb ?finb
        case allb =>
          simp only [fillA, Act.put, fU1, fU2, fU3]
          refine ⟨?_, ?_, ?_, True.intro⟩
          all_goals (iterate 18 (first | refine pass rfl ?_ | (refine abides_load rfl 77 (.tmp 3) rfl (W.heap.size) #[.int .i64 n.op, vi, .int .i64 n.k, .int .i64 n.stride, .int .i64 n.pad, .int .i64 n.out, .int .i64 n.mul, .int .i64 n.shift, .int .i64 n.zero, .int .i64 n.th, .int .i64 n.tw, .int .i64 n.tc, vw, vb, .slice (some ⟨lb, lo, none⟩) vs.length c1, .int .i64 m.1, .int .i64 m.2.1, .int .i64 m.2.2] rfl (fun w h => by (try go_split_ands); assumption) Tryz.underlying77 rfl T18 (by simp only [Act.put, List.setIfInBounds_toArray, List.set_cons_zero, List.set_cons_succ] <;> rfl) ?_) | (refine abides (fun w hw K hK => ?_) ?_; focus ((have hS := Lib.hid hw); go_split_ands; go_simp; (try simp only [Act.put, List.setIfInBounds_toArray, List.set_cons_zero, List.set_cons_succ]); first | exact hK _ hS.out | ((((with_reducible refine (LK1.out _).mono ?_); rintro e w6 ⟨rfl, gg⟩)); refine hK _ ?_; (exact kKeepS))))))
          all_goals exact True.intro
        case forb =>
          simp only [fillA, Act.put, fU1, fU2, fU3]
          refine turns rfl (fun w hw K hK => ?_) (turns rfl (fun w hw K hK => ?_) True.intro)
          . obtain ⟨bt, b6, f6, b8, f8, b10, g2, z4⟩ := hw
            go_simp
            refine hK _ ⟨by (exact kKeepS), by (exact kKeepS), by (exact kKeepS), box4_c2 b8, by (exact kKeepS), by (exact kKeepS), by (exact kKeepS), by (exact kKeepS)⟩
          . obtain ⟨bt, b6, f6, b8, f8, b10, g2, z4⟩ := hw
            go_simp
            refine hK _ ⟨by (exact kKeepS), by (exact kKeepS), by (exact kKeepS), box4_c3 b8, by (exact kKeepS), by (exact kKeepS), by (exact kKeepS), by (exact kKeepS)⟩
        case finb =>
          rintro w9 ⟨bt, b6, f6, b8, f8, b10, g9, z9⟩
          simp only [fillA, Act.put, fU1, fU2, fU3]
          go_wp2_with fail
          go_roundw
          case rel => exact ⟨2, p0, p1, p, q, by omega, by go_num, Lib.hid (NeedsAt.two hn.out (by rw [HX.out]; exact hp.out) (by rw [HX.out]; exact hq.out)), bt, b6, f6, b8, f8, g9, by omega⟩
          case measure => simp [intOf]; omega
    . obtain rfl : k = vs.length := by omega
      go_wp2_with ((refine wpList_store_box rfl 81 (.tmp 6) (.tmp 52) rfl (W.heap.size + 1) #[.int .i64 p0, .int .i64 p1, .int .i64 q0, .int .i64 q1] _ rfl rfl b6 f6 rfl A4 (by simp [Value.oneCell']) (fun w' => (Bx w' (W.heap.size + 1) #[.int .i64 p0, .int .i64 p1, .int .i64 q0, .int .i64 q1]) /\ Grown W w') ⟨box_setAll b6 rfl, grown_setAll (by omega) _ _ _ g2⟩ ?_); rintro w3 ⟨b9, g9⟩)
      exact ret_box rfl (W.heap.size + 1) #[.int .i64 p0, .int .i64 p1, .int .i64 q0, .int .i64 q1] _ (.int .i64 0) rfl rfl b9 Tryz.underlying81 rfl A4 rfl ⟨_, _, _, _, rfl, hn.out, g9⟩
end Go.Proofs.YtliijchcpooplaaGreat
