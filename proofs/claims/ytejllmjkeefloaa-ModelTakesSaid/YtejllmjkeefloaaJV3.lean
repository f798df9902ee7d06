/- begins. Value at nodes without slices. Commands as values: boxes of fourteen numbers; two commands compared. Two commands compared, in the walk. Small: a Bool for what may be; nodes and graphs part by part. -/
import Derived.Test.YtejllmjkeefloaaJG12
import Derived.Test.YtejllmjkeefloaaJG8
import Derived.Test.YtejllmjkeefloaaJG6C
import Derived.Test.YtejllmjkeefloaaJT1
import Derived.Test.YtejllmjkeefloaaJRead
namespace Go.Proofs.Ytejllmjkeefloaa
open Go.ChangeShapes Go.WideShapes Go.ChangeAt Go.RowKit
set_option maxRecDepth 20000
set_option linter.unusedVariables false

open Classical in
/-- What is wrong with a graph ahead of its nodes. -/
noncomputable def beginsE (g : GraphD) : Int :=
  if 4 < g.ins.length ∨ 12 < g.nodes.length ∨ 4 < g.outs.length then 3 else
  if g.ins.length = 0 ∨ g.outs.length = 0 then 13 else
  if ¬ (∀ j, j < g.ins.length → mayV (g.ins.getD j default)) then 10 else
  if ¬ (∀ j, j < g.ins.length → -128 ≤ (g.ins.getD j default).z ∧ (g.ins.getD j default).z ≤ 127) then 11 else 0
theorem enters_may : ∀ (xs : Array Value) (w : World), (callFunc 95 xs).run Try.prog w = .ok (.enter 95 xs) w := fun xs w => by kernel_rfl
theorem enters_badZero : ∀ (xs : Array Value) (w : World), (callFunc 96 xs).run Try.prog w = .ok (.enter 96 xs) w := fun xs w => by kernel_rfl
set_option maxHeartbeats 4000000 in
theorem begins_any (g : GraphD) (A1 A2 A3 : Option Addr) (c1 c2 c3 : Nat) (W : World) (q : Int) (hq : Hid (q = beginsE g)) (hi : IsVals W (.slice A1 g.ins.length c1) g.ins) (l2 : g.nodes.length ≤ maxLen) (l3 : g.outs.length ≤ maxLen) :
    Calls Try.prog 75 #[.agg #[.slice A1 g.ins.length c1, .slice A2 g.nodes.length c2, .slice A3 g.outs.length c3]] W fun e w' => e = .returned (.int .i64 q) ∧ Grown W w' := by
  have l1 : g.ins.length ≤ maxLen := by
    obtain ⟨A, c, e, h1, h2, _⟩ := hi
    omega
  have HI := Lib.hid hi
  have m1 : g.ins.length ≤ 9223372036854775807 := by unfold maxLen at l1; omega
  have m2 : g.nodes.length ≤ 9223372036854775807 := by unfold maxLen at l2; omega
  have m3 : g.outs.length ≤ 9223372036854775807 := by unfold maxLen at l3; omega
  clear hi l1 l2 l3
  have hq' := hq.out
  unfold beginsE at hq'
  by_cases k1 : 4 < g.ins.length
  · rw [if_pos (.inl k1)] at hq'
    subst hq'
    have d1 : decide ((4 : Int) < (g.ins.length : Int)) = true := by simp; omega
    clear hq
    go_enter Try.func75, Try.ntmps75
    go_wp2_with fail
    go_ret
    exact ⟨rfl, by go_grown⟩
  have d1 : decide ((4 : Int) < (g.ins.length : Int)) = false := by simp; omega
  by_cases k2 : 12 < g.nodes.length
  · rw [if_pos (.inr (.inl k2))] at hq'
    subst hq'
    have d2 : decide ((12 : Int) < (g.nodes.length : Int)) = true := by simp; omega
    clear hq
    go_enter Try.func75, Try.ntmps75
    go_wp2_with fail
    go_ret
    exact ⟨rfl, by go_grown⟩
  have d2 : decide ((12 : Int) < (g.nodes.length : Int)) = false := by simp; omega
  by_cases k3 : 4 < g.outs.length
  · rw [if_pos (.inr (.inr k3))] at hq'
    subst hq'
    have d3 : decide ((4 : Int) < (g.outs.length : Int)) = true := by simp; omega
    clear hq
    go_enter Try.func75, Try.ntmps75
    go_wp2_with fail
    go_ret
    exact ⟨rfl, by go_grown⟩
  have d3 : decide ((4 : Int) < (g.outs.length : Int)) = false := by simp; omega
  rw [if_neg (by omega)] at hq'
  by_cases k4 : g.ins.length = 0
  · rw [if_pos (.inl k4)] at hq'
    subst hq'
    have d4 : ((g.ins.length : Int) == 0) = true := by simp [k4]
    have k4' := Lib.hid k4
    clear hq k4
    go_enter Try.func75, Try.ntmps75
    go_wp2_with fail
    go_ret
    exact ⟨rfl, by go_grown⟩
  have d4 : ((g.ins.length : Int) == 0) = false := by simp only [beq_eq_false_iff_ne, ne_eq]; omega
  by_cases k5 : g.outs.length = 0
  · rw [if_pos (.inr k5)] at hq'
    subst hq'
    have d5 : ((g.outs.length : Int) == 0) = true := by simp [k5]
    have k5' := Lib.hid k5
    clear hq k5
    go_enter Try.func75, Try.ntmps75
    go_wp2_with fail
    go_ret
    exact ⟨rfl, by go_grown⟩
  have d5 : ((g.outs.length : Int) == 0) = false := by simp only [beq_eq_false_iff_ne, ne_eq]; omega
  rw [if_neg (by omega)] at hq'
  have F1 : Hid (∀ x ∈ g.ins, ∀ w, Calls Try.prog 95 #[.agg #[.int .i64 x.h, .int .i64 x.w, .int .i64 x.c, .int .i64 x.z]] w fun e w' => e = .returned (.bool (!mayB (shD x))) ∧ Grown w w') := Lib.hid (fun x _ w => mayNotBe_any x.h x.w x.c x.z w)
  have F2 : Hid (∀ x ∈ g.ins, ∀ w, Calls Try.prog 96 #[.agg #[.int .i64 x.h, .int .i64 x.w, .int .i64 x.c, .int .i64 x.z]] w fun e w' => e = .returned (.bool (!holdB (-128) 127 x.z)) ∧ Grown w w') := Lib.hid (fun x _ w => badZero_any x.h x.w x.c x.z w)
  by_cases k6 : ∀ j, j < g.ins.length → mayV (g.ins.getD j default)
  · rw [if_neg (fun h => h k6)] at hq'
    have t1 : Hid (false = true ↔ ∃ j, j < g.ins.length ∧ (!mayB (shD (g.ins.getD j default))) = true) := Lib.hid ⟨fun j => Bool.noConfusion j, fun ⟨j, h1, h2⟩ => by
      rw [show mayB (shD (g.ins.getD j default)) = true from mayB_t (k6 j h1)] at h2
      cases h2⟩
    have C1 := Lib.hid (fun w (p : Grown W w) => containsVals_any _ (fun x => !mayB (shD x)) g.ins _ w false (HI.out.grow (Grown.past p)) enters_may F1.out t1)
    by_cases k7 : ∀ j, j < g.ins.length → -128 ≤ (g.ins.getD j default).z ∧ (g.ins.getD j default).z ≤ 127
    · rw [if_neg (fun h => h k7)] at hq'
      subst hq'
      have t2 : Hid (false = true ↔ ∃ j, j < g.ins.length ∧ (!holdB (-128) 127 (g.ins.getD j default).z) = true) := Lib.hid ⟨fun j => Bool.noConfusion j, fun ⟨j, h1, h2⟩ => by
        rw [holdB_t.mpr (k7 j h1)] at h2
        cases h2⟩
      have C2 := Lib.hid (fun w (p : Grown W w) => containsVals_any _ (fun x => !holdB (-128) 127 x.z) g.ins _ w false (HI.out.grow (Grown.past p)) enters_badZero F2.out t2)
      clear hq k6 k7 k4 k5
      go_enter Try.func75, Try.ntmps75
      go_upto_region 1 with fail
      refine opq (fun w' => (∀ o : Nat, w'.cell? ⟨W.heap.size, o, none⟩ = (#[.slice A1 g.ins.length c1, .slice A2 g.nodes.length c2, .slice A3 g.outs.length c3] : Array Value)[o]?) ∧ Grown W w' ∧ W.heap.size + 1 ≤ w'.heap.size) kKeep ?_
      rintro w1 ⟨b1, g1, s1⟩
      go_wp2_with fail
      refine (C1.out _ g1).mono ?_
      rintro e w2 ⟨rfl, p2⟩
      obtain ⟨b2, g2, s2⟩ : (∀ o : Nat, w2.cell? ⟨W.heap.size, o, none⟩ = (#[.slice A1 g.ins.length c1, .slice A2 g.nodes.length c2, .slice A3 g.outs.length c3] : Array Value)[o]?) ∧ Grown W w2 ∧ W.heap.size + 1 ≤ w2.heap.size := by (exact kKeep)
      clear b1 g1 s1 p2
      go_wp2_with fail
      refine (C2.out _ g2).mono ?_
      rintro e w3 ⟨rfl, p3⟩
      go_wp2_with fail
      go_ret
      exact ⟨rfl, grown_trans g2 p3⟩
    · rw [if_pos k7] at hq'
      subst hq'
      have t2 : Hid (true = true ↔ ∃ j, j < g.ins.length ∧ (!holdB (-128) 127 (g.ins.getD j default).z) = true) := Lib.hid ⟨fun _ => by
        apply Classical.byContradiction
        intro c
        apply k7
        intro j hj
        apply Classical.byContradiction
        intro d
        apply c
        refine ⟨j, hj, ?_⟩
        rw [holdB_f.mpr d]
        rfl, fun _ => rfl⟩
      have C2 := Lib.hid (fun w (p : Grown W w) => containsVals_any _ (fun x => !holdB (-128) 127 x.z) g.ins _ w true (HI.out.grow (Grown.past p)) enters_badZero F2.out t2)
      clear hq k6 k7 k4 k5
      go_enter Try.func75, Try.ntmps75
      go_upto_region 1 with fail
      refine opq (fun w' => (∀ o : Nat, w'.cell? ⟨W.heap.size, o, none⟩ = (#[.slice A1 g.ins.length c1, .slice A2 g.nodes.length c2, .slice A3 g.outs.length c3] : Array Value)[o]?) ∧ Grown W w' ∧ W.heap.size + 1 ≤ w'.heap.size) kKeep ?_
      rintro w1 ⟨b1, g1, s1⟩
      go_wp2_with fail
      refine (C1.out _ g1).mono ?_
      rintro e w2 ⟨rfl, p2⟩
      obtain ⟨b2, g2, s2⟩ : (∀ o : Nat, w2.cell? ⟨W.heap.size, o, none⟩ = (#[.slice A1 g.ins.length c1, .slice A2 g.nodes.length c2, .slice A3 g.outs.length c3] : Array Value)[o]?) ∧ Grown W w2 ∧ W.heap.size + 1 ≤ w2.heap.size := by (exact kKeep)
      clear b1 g1 s1 p2
      go_wp2_with fail
      refine (C2.out _ g2).mono ?_
      rintro e w3 ⟨rfl, p3⟩
      go_wp2_with fail
      go_ret
      exact ⟨rfl, grown_trans g2 p3⟩
  · rw [if_pos k6] at hq'
    subst hq'
    have t1 : Hid (true = true ↔ ∃ j, j < g.ins.length ∧ (!mayB (shD (g.ins.getD j default))) = true) := Lib.hid ⟨fun _ => by
      apply Classical.byContradiction
      intro c
      apply k6
      intro j hj
      apply Classical.byContradiction
      intro d
      apply c
      refine ⟨j, hj, ?_⟩
      rw [show mayB (shD (g.ins.getD j default)) = false from mayB_f d]
      rfl, fun _ => rfl⟩
    have C1 := Lib.hid (fun w (p : Grown W w) => containsVals_any _ (fun x => !mayB (shD x)) g.ins _ w true (HI.out.grow (Grown.past p)) enters_may F1.out t1)
    clear hq k6 k4 k5
    go_enter Try.func75, Try.ntmps75
    go_upto_region 1 with fail
    refine opq (fun w' => (∀ o : Nat, w'.cell? ⟨W.heap.size, o, none⟩ = (#[.slice A1 g.ins.length c1, .slice A2 g.nodes.length c2, .slice A3 g.outs.length c3] : Array Value)[o]?) ∧ Grown W w' ∧ W.heap.size + 1 ≤ w'.heap.size) kKeep ?_
    rintro w1 ⟨b1, g1, s1⟩
    go_wp2_with fail
    refine (C1.out _ g1).mono ?_
    rintro e w2 ⟨rfl, p2⟩
    go_wp2_with fail
    go_ret
    exact ⟨rfl, grown_trans g1 p2⟩
end Go.Proofs.Ytejllmjkeefloaa
namespace Go.Proofs.Ytejllmjkeefloaa
open Go.ChangeShapes Go.WideShapes Go.ChangeAt Go.RowKit
set_option maxRecDepth 20000
set_option linter.unusedVariables false

theorem vals_one {w : World} {b : Nat} {x : ValD} (hb : b < w.heap.size) (wf : ValWf x) (h : ValAt w b 0 x) : IsVals w (.slice (some ⟨b, 0, none⟩) 1 1) [x] :=
  ⟨some ⟨b, 0, none⟩, 1, rfl, Nat.le_refl _, by decide, (fun h => by cases h), by simpa using wf, fun _ => ⟨b, 0, rfl, hb, fun i hi => by
    simp only [List.length_cons, List.length_nil] at hi
    obtain rfl : i = 0 := by omega
    simpa using h⟩⟩
end Go.Proofs.Ytejllmjkeefloaa
namespace Go.Proofs.Ytejllmjkeefloaa.Q8
open Go.ChangeShapes Go.WideShapes Go.ChangeAt Go.RowKit
set_option maxRecDepth 20000
set_option linter.unusedVariables false
set_option linter.unusedSimpArgs false

def cellC (c : List Int) : List Value := c.map (Value.int .i64)
theorem cellC_len (c : List Int) : (cellC c).length = c.length := by simp [cellC]
theorem cellC_at (c : List Int) (j : Nat) (h : j < c.length) : (cellC c)[j]? = some (.int .i64 (c.getD j 0)) := by simp [cellC, List.getD, h]
theorem boxC_cell {w : World} {Q j : Nat} {c : List Int} (h : (∀ o : Nat, w.cell? ⟨Q, o, none⟩ = (⟨cellC c⟩ : Array Value)[o]?)) (hj : j < c.length) : w.cell? ⟨Q, j, none⟩ = some (.int .i64 (c.getD j 0)) := by
  rw [h j]
  have := cellC_at c j hj
  simpa using this
theorem boxC_set {w : World} {Q j : Nat} {c : List Int} {x : Int} (h : (∀ o : Nat, w.cell? ⟨Q, o, none⟩ = (⟨cellC c⟩ : Array Value)[o]?)) (hj : j < c.length) : (∀ o : Nat, (w.setCell ⟨Q, j, none⟩ (.int .i64 x)).cell? ⟨Q, o, none⟩ = (⟨cellC (c.set j x)⟩ : Array Value)[o]?) := by
  intro i
  by_cases e : i = j
  · subst e
    rw [World.cell?_setCell_same w _ _ (boxC_cell h hj)]
    simp [cellC, hj]
  · rw [World.cell?_setCell_other _ _ _ _ (by simp <;> omega), h i]
    simp [cellC, List.getElem?_set, show ¬ j = i by omega]
set_option maxHeartbeats 4000000 in
theorem eq2 (a b c d : Int) (w : World) : (Op.equalIn 9999 49 (.agg #[.int .i64 a, .int .i64 b]) (.agg #[.int .i64 c, .int .i64 d])).run Try.prog w = .ok (a == c && b == d) w := by
  have ku := Try.underlying3
  have ka := Try.isAgg3
  have kz := Try.sizeOf3
  rw [show (9999 : Nat) = 9998 + 1 from rfl, Op.equalIn]
  simp only [Sem.run_bind, run_underlying Try.underlying49, Result.andThen_ok]
  simp only [Std.Legacy.Range.forIn_eq_forIn_range', Std.Legacy.Range.size, Nat.sub_zero, Nat.add_sub_cancel, Nat.div_one, List.range'_succ, List.range'_zero, List.forIn_cons, List.forIn_nil]
  cases e0 : (a == c)
  · go_simp
  cases e1 : (b == d)
  · go_simp
  · go_simp
set_option maxHeartbeats 4000000 in
theorem eqC_raw (a0 a1 a2 a3 a4 a5 a6 a7 a8 a9 a10 a11 a12 a13 b0 b1 b2 b3 b4 b5 b6 b7 b8 b9 b10 b11 b12 b13 : Int) (w : World) : (Op.equalIn 10000 51 (.agg #[.int .i64 a0, .int .i64 a1, .int .i64 a2, .int .i64 a3, .int .i64 a4, .int .i64 a5, .int .i64 a6, .int .i64 a7, .int .i64 a8, .int .i64 a9, .int .i64 a10, .int .i64 a11, .int .i64 a12, .int .i64 a13]) (.agg #[.int .i64 b0, .int .i64 b1, .int .i64 b2, .int .i64 b3, .int .i64 b4, .int .i64 b5, .int .i64 b6, .int .i64 b7, .int .i64 b8, .int .i64 b9, .int .i64 b10, .int .i64 b11, .int .i64 b12, .int .i64 b13])).run Try.prog w = .ok (a0 == b0 && (a1 == b1 && (a2 == b2 && (a3 == b3 && (a4 == b4 && (a5 == b5 && (a6 == b6 && (a7 == b7 && ((a8 == b8 && a9 == b9) && ((a10 == b10 && a11 == b11) && (a12 == b12 && a13 == b13))))))))))) w := by
  have ku := Try.underlying3
  have ka := Try.isAgg3
  have kz := Try.sizeOf3
  have ku2 := Try.underlying49
  have ka2 := Try.isAgg49
  have kz2 := Try.sizeOf49
  have ef : Try.prog.underlying 51 = some (.struct (Try.prog.fieldsOf 51)) := by kernel_rfl
  have ef2 := Try.underlying51
  rw [show (10000 : Nat) = 9999 + 1 from rfl, run_equalIn_struct w 9999 _ _ _ ef (by kernel_rfl)]
  rw [ef] at ef2
  simp only [Option.some.injEq, TypeDesc.struct.injEq] at ef2
  rw [ef2]
  clear ef ef2
  cases e0 : (a0 == b0)
  · go_simp
  cases e1 : (a1 == b1)
  · go_simp
  cases e2 : (a2 == b2)
  · go_simp
  cases e3 : (a3 == b3)
  · go_simp
  cases e4 : (a4 == b4)
  · go_simp
  cases e5 : (a5 == b5)
  · go_simp
  cases e6 : (a6 == b6)
  · go_simp
  cases e7 : (a7 == b7)
  · go_simp
  have q1 := eq2 a8 a9 b8 b9 w
  cases e8 : (a8 == b8 && a9 == b9)
  · rw [e8] at q1
    go_simp
  rw [e8] at q1
  have q2 := eq2 a10 a11 b10 b11 w
  cases e10 : (a10 == b10 && a11 == b11)
  · rw [e10] at q2
    go_simp
  rw [e10] at q2
  have q3 := eq2 a12 a13 b12 b13 w
  cases e12 : (a12 == b12 && a13 == b13)
  · rw [e12] at q3
    go_simp
  rw [e12] at q3
  · go_simp
theorem eqC {a b : List Int} (ha : a.length = 14) (hb : b.length = 14) (w : World) : (Op.equalIn 10000 51 (.agg ⟨cellC a⟩) (.agg ⟨cellC b⟩)).run Try.prog w = .ok (decide (a = b)) w := by
  obtain ⟨a0, a1, a2, a3, a4, a5, a6, a7, a8, a9, a10, a11, a12, a13, rfl⟩ := fourteen ha
  obtain ⟨b0, b1, b2, b3, b4, b5, b6, b7, b8, b9, b10, b11, b12, b13, rfl⟩ := fourteen hb
  have h := eqC_raw a0 a1 a2 a3 a4 a5 a6 a7 a8 a9 a10 a11 a12 a13 b0 b1 b2 b3 b4 b5 b6 b7 b8 b9 b10 b11 b12 b13 w
  refine h.trans ?_
  congr 1
  rw [Bool.eq_iff_iff]
  simp
  intro _ _ _ _ _ _ _ _
  constructor
  · rintro ⟨⟨h9, h10⟩, ⟨h11, h12⟩, h13, h14⟩
    exact ⟨h9, h10, h11, h12, h13, h14⟩
  · rintro ⟨h9, h10, h11, h12, h13, h14⟩
    exact ⟨⟨h9, h10⟩, ⟨h11, h12⟩, h13, h14⟩
end Go.Proofs.Ytejllmjkeefloaa.Q8
namespace Go.Proofs.Ytejllmjkeefloaa.Q8
open Go.ChangeShapes Go.WideShapes Go.ChangeAt Go.RowKit
set_option maxRecDepth 20000
set_option linter.unusedVariables false
set_option linter.unusedSimpArgs false

theorem guardC : Try.prog.eqGuardType Try.prog.depth 51 = false := by kernel_rfl
theorem wp_neqC {o : Oper} {a : Act} {w : World} {K : Act → World → Prop} {Q : Exit → Act → World → Prop} (x y : Operand) (ty2 : TypeId) (ho : o.op = .binOp .neq 51 x y ty2)
    (c d : List Int) (hc : c.length = 14) (hd : d.length = 14) (hx : a.eval x = .agg ⟨cellC c⟩) (hy : a.eval y = .agg ⟨cellC d⟩) (h : K (a.put o.dst (.bool (!decide (c = d)))) w) : o.wp Try.prog a w K Q := by
  have e := eqC hc hd w
  unfold Oper.wp execOp
  simp only [ho, hx, hy, Sem.run_bind, run_eqGuard_agg _ _ _ _ _ _ _ guardC, Result.andThen_ok, run_neq_struct, e, Sem.run_pure]
  exact h
theorem wpList_neqC {ops : Array Oper} {rest : List Oper} {o : Oper} {a : Act} {w : World} {Q : Exit → Act → World → Prop} (hgd : o.guard = none) (x y : Operand) (ty2 : TypeId) (ho : o.op = .binOp .neq 51 x y ty2)
    (c d : List Int) (hc : c.length = 14) (hd : d.length = 14) (hx : a.eval x = .agg ⟨cellC c⟩) (hy : a.eval y = .agg ⟨cellC d⟩) (h : wpList Try.prog ops Q rest (a.put o.dst (.bool (!decide (c = d)))) w) : wpList Try.prog ops Q (o :: rest) a w :=
  wpList_plain hgd fun _ hK => wp_neqC x y ty2 ho c d hc hd hx hy (hK _ _ h)
end Go.Proofs.Ytejllmjkeefloaa.Q8
namespace Go.Proofs.Ytejllmjkeefloaa
open Go.ChangeShapes Go.WideShapes Go.ChangeAt Go.RowKit
set_option linter.unusedVariables false

theorem bool_any (p : Prop) : ∃ t : Bool, (t = true ↔ p) := by
  rcases Classical.em p with h | h
  · exact ⟨true, by simp [h]⟩
  · exact ⟨false, by simp [h]⟩
theorem nodes_ext {xs ys : List NodeD} (h : xs.length = ys.length) : xs = ys ↔ ∀ j, j < xs.length → xs.getD j default = ys.getD j default := by
  constructor
  · rintro rfl j _; rfl
  · intro k
    refine List.ext_getElem h (fun i h1 h2 => ?_)
    have := k i h1
    simpa [List.getD, h1, h2] using this
theorem graph_eq (a b : GraphD) : a = b ↔ a.ins = b.ins ∧ a.nodes = b.nodes ∧ a.outs = b.outs := by
  cases a
  cases b
  simp
end Go.Proofs.Ytejllmjkeefloaa
