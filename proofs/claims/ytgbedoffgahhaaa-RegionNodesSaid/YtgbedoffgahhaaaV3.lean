/- begins. -/
import Derived.Test.YtgbedoffgahhaaaV2
import Derived.Test.YtgbedoffgahhaaaG12
namespace Go.Proofs.Ytgbedoffgahhaaa
open Go.ChangeShapes Go.WideShapes Go.ChangeAt Go.RowKit
set_option maxRecDepth 20000
set_option linter.unusedVariables false

open Classical in
/-- What is wrong with a graph ahead of its nodes. -/
noncomputable def beginsE (g : GraphD) : Int :=
  if 4 < g.ins.length ∨ 12 < g.nodes.length ∨ 4 < g.outs.length then 3 else
  if g.ins.length = 0 ∨ g.outs.length = 0 then 13 else
  if ¬ (∀ j, j < g.ins.length → mayV (g.ins.getD j default)) then 10 else
  if ¬ (∀ j, j < g.ins.length → -128 ≤ (g.ins.getD j default).z ∧ (g.ins.getD j default).z ≤ 127) then 11 else 0

theorem enters_may : ∀ (xs : Array Value) (w : World), (callFunc 48 xs).run Try.prog w = .ok (.enter 48 xs) w := fun xs w => by kernel_rfl
theorem enters_badZero : ∀ (xs : Array Value) (w : World), (callFunc 49 xs).run Try.prog w = .ok (.enter 49 xs) w := fun xs w => by kernel_rfl

set_option maxHeartbeats 4000000 in
theorem begins_any (g : GraphD) (A1 A2 A3 : Option Addr) (c1 c2 c3 : Nat) (W : World) (q : Int) (hq : Hid (q = beginsE g)) (hi : IsVals W (.slice A1 g.ins.length c1) g.ins) (l2 : g.nodes.length ≤ maxLen) (l3 : g.outs.length ≤ maxLen) :
    Calls Try.prog 34 #[.agg #[.slice A1 g.ins.length c1, .slice A2 g.nodes.length c2, .slice A3 g.outs.length c3]] W fun e w' => e = .returned (.int .i64 q) ∧ Grown W w' := by
  have l1 : g.ins.length ≤ maxLen := by
    obtain ⟨A, c, e, h1, h2, _⟩ := hi
    omega
  have HI := Lib.hid hi
  have m1 : g.ins.length ≤ 9223372036854775807 := by unfold maxLen at l1; omega
  have m2 : g.nodes.length ≤ 9223372036854775807 := by unfold maxLen at l2; omega
  have m3 : g.outs.length ≤ 9223372036854775807 := by unfold maxLen at l3; omega
  clear hi l1 l2 l3
  have hq' := hq.out
  unfold beginsE at hq'
  by_cases k1 : 4 < g.ins.length
  · rw [if_pos (.inl k1)] at hq'
    subst hq'
    have d1 : decide ((4 : Int) < (g.ins.length : Int)) = true := by simp; omega
    clear hq
    go_enter Try.func34, Try.ntmps34
    go_wp2_with fail
    go_ret
    exact ⟨rfl, by go_grown⟩
  have d1 : decide ((4 : Int) < (g.ins.length : Int)) = false := by simp; omega
  by_cases k2 : 12 < g.nodes.length
  · rw [if_pos (.inr (.inl k2))] at hq'
    subst hq'
    have d2 : decide ((12 : Int) < (g.nodes.length : Int)) = true := by simp; omega
    clear hq
    go_enter Try.func34, Try.ntmps34
    go_wp2_with fail
    go_ret
    exact ⟨rfl, by go_grown⟩
  have d2 : decide ((12 : Int) < (g.nodes.length : Int)) = false := by simp; omega
  by_cases k3 : 4 < g.outs.length
  · rw [if_pos (.inr (.inr k3))] at hq'
    subst hq'
    have d3 : decide ((4 : Int) < (g.outs.length : Int)) = true := by simp; omega
    clear hq
    go_enter Try.func34, Try.ntmps34
    go_wp2_with fail
    go_ret
    exact ⟨rfl, by go_grown⟩
  have d3 : decide ((4 : Int) < (g.outs.length : Int)) = false := by simp; omega
  rw [if_neg (by omega)] at hq'
  by_cases k4 : g.ins.length = 0
  · rw [if_pos (.inl k4)] at hq'
    subst hq'
    have d4 : ((g.ins.length : Int) == 0) = true := by simp [k4]
    have k4' := Lib.hid k4
    clear hq k4
    go_enter Try.func34, Try.ntmps34
    go_wp2_with fail
    go_ret
    exact ⟨rfl, by go_grown⟩
  have d4 : ((g.ins.length : Int) == 0) = false := by simp only [beq_eq_false_iff_ne, ne_eq]; omega
  by_cases k5 : g.outs.length = 0
  · rw [if_pos (.inr k5)] at hq'
    subst hq'
    have d5 : ((g.outs.length : Int) == 0) = true := by simp [k5]
    have k5' := Lib.hid k5
    clear hq k5
    go_enter Try.func34, Try.ntmps34
    go_wp2_with fail
    go_ret
    exact ⟨rfl, by go_grown⟩
  have d5 : ((g.outs.length : Int) == 0) = false := by simp only [beq_eq_false_iff_ne, ne_eq]; omega
  rw [if_neg (by omega)] at hq'
  have F1 : Hid (∀ x ∈ g.ins, ∀ w, Calls Try.prog 48 #[.agg #[.int .i64 x.h, .int .i64 x.w, .int .i64 x.c, .int .i64 x.z]] w fun e w' => e = .returned (.bool (!mayB (shD x))) ∧ Grown w w') := Lib.hid (fun x _ w => mayNotBe_any x.h x.w x.c x.z w)
  have F2 : Hid (∀ x ∈ g.ins, ∀ w, Calls Try.prog 49 #[.agg #[.int .i64 x.h, .int .i64 x.w, .int .i64 x.c, .int .i64 x.z]] w fun e w' => e = .returned (.bool (!holdB (-128) 127 x.z)) ∧ Grown w w') := Lib.hid (fun x _ w => badZero_any x.h x.w x.c x.z w)
  by_cases k6 : ∀ j, j < g.ins.length → mayV (g.ins.getD j default)
  · rw [if_neg (fun h => h k6)] at hq'
    have t1 : Hid (false = true ↔ ∃ j, j < g.ins.length ∧ (!mayB (shD (g.ins.getD j default))) = true) := Lib.hid ⟨fun j => Bool.noConfusion j, fun ⟨j, h1, h2⟩ => by
      rw [show mayB (shD (g.ins.getD j default)) = true from mayB_t (k6 j h1)] at h2
      cases h2⟩
    have C1 := Lib.hid (fun w (p : Grown W w) => containsVals_any _ (fun x => !mayB (shD x)) g.ins _ w false (HI.out.grow (Grown.past p)) enters_may F1.out t1)
    by_cases k7 : ∀ j, j < g.ins.length → -128 ≤ (g.ins.getD j default).z ∧ (g.ins.getD j default).z ≤ 127
    · rw [if_neg (fun h => h k7)] at hq'
      subst hq'
      have t2 : Hid (false = true ↔ ∃ j, j < g.ins.length ∧ (!holdB (-128) 127 (g.ins.getD j default).z) = true) := Lib.hid ⟨fun j => Bool.noConfusion j, fun ⟨j, h1, h2⟩ => by
        rw [holdB_t.mpr (k7 j h1)] at h2
        cases h2⟩
      have C2 := Lib.hid (fun w (p : Grown W w) => containsVals_any _ (fun x => !holdB (-128) 127 x.z) g.ins _ w false (HI.out.grow (Grown.past p)) enters_badZero F2.out t2)
      clear hq k6 k7 k4 k5
      go_enter Try.func34, Try.ntmps34
      go_upto_region 1 with fail
      refine opq (fun w' => (∀ o : Nat, w'.cell? ⟨W.heap.size, o, none⟩ = (#[.slice A1 g.ins.length c1, .slice A2 g.nodes.length c2, .slice A3 g.outs.length c3] : Array Value)[o]?) ∧ Grown W w' ∧ W.heap.size + 1 ≤ w'.heap.size) kKeep ?_
      rintro w1 ⟨b1, g1, s1⟩
      go_wp2_with fail
      refine (C1.out _ g1).mono ?_
      rintro e w2 ⟨rfl, p2⟩
      obtain ⟨b2, g2, s2⟩ : (∀ o : Nat, w2.cell? ⟨W.heap.size, o, none⟩ = (#[.slice A1 g.ins.length c1, .slice A2 g.nodes.length c2, .slice A3 g.outs.length c3] : Array Value)[o]?) ∧ Grown W w2 ∧ W.heap.size + 1 ≤ w2.heap.size := by (exact kKeep)
      clear b1 g1 s1 p2
      go_wp2_with fail
      refine (C2.out _ g2).mono ?_
      rintro e w3 ⟨rfl, p3⟩
      go_wp2_with fail
      go_ret
      exact ⟨rfl, grown_trans g2 p3⟩
    · rw [if_pos k7] at hq'
      subst hq'
      have t2 : Hid (true = true ↔ ∃ j, j < g.ins.length ∧ (!holdB (-128) 127 (g.ins.getD j default).z) = true) := Lib.hid ⟨fun _ => by
        apply Classical.byContradiction
        intro c
        apply k7
        intro j hj
        apply Classical.byContradiction
        intro d
        apply c
        refine ⟨j, hj, ?_⟩
        rw [holdB_f.mpr d]
        rfl, fun _ => rfl⟩
      have C2 := Lib.hid (fun w (p : Grown W w) => containsVals_any _ (fun x => !holdB (-128) 127 x.z) g.ins _ w true (HI.out.grow (Grown.past p)) enters_badZero F2.out t2)
      clear hq k6 k7 k4 k5
      go_enter Try.func34, Try.ntmps34
      go_upto_region 1 with fail
      refine opq (fun w' => (∀ o : Nat, w'.cell? ⟨W.heap.size, o, none⟩ = (#[.slice A1 g.ins.length c1, .slice A2 g.nodes.length c2, .slice A3 g.outs.length c3] : Array Value)[o]?) ∧ Grown W w' ∧ W.heap.size + 1 ≤ w'.heap.size) kKeep ?_
      rintro w1 ⟨b1, g1, s1⟩
      go_wp2_with fail
      refine (C1.out _ g1).mono ?_
      rintro e w2 ⟨rfl, p2⟩
      obtain ⟨b2, g2, s2⟩ : (∀ o : Nat, w2.cell? ⟨W.heap.size, o, none⟩ = (#[.slice A1 g.ins.length c1, .slice A2 g.nodes.length c2, .slice A3 g.outs.length c3] : Array Value)[o]?) ∧ Grown W w2 ∧ W.heap.size + 1 ≤ w2.heap.size := by (exact kKeep)
      clear b1 g1 s1 p2
      go_wp2_with fail
      refine (C2.out _ g2).mono ?_
      rintro e w3 ⟨rfl, p3⟩
      go_wp2_with fail
      go_ret
      exact ⟨rfl, grown_trans g2 p3⟩
  · rw [if_pos k6] at hq'
    subst hq'
    have t1 : Hid (true = true ↔ ∃ j, j < g.ins.length ∧ (!mayB (shD (g.ins.getD j default))) = true) := Lib.hid ⟨fun _ => by
      apply Classical.byContradiction
      intro c
      apply k6
      intro j hj
      apply Classical.byContradiction
      intro d
      apply c
      refine ⟨j, hj, ?_⟩
      rw [show mayB (shD (g.ins.getD j default)) = false from mayB_f d]
      rfl, fun _ => rfl⟩
    have C1 := Lib.hid (fun w (p : Grown W w) => containsVals_any _ (fun x => !mayB (shD x)) g.ins _ w true (HI.out.grow (Grown.past p)) enters_may F1.out t1)
    clear hq k6 k4 k5
    go_enter Try.func34, Try.ntmps34
    go_upto_region 1 with fail
    refine opq (fun w' => (∀ o : Nat, w'.cell? ⟨W.heap.size, o, none⟩ = (#[.slice A1 g.ins.length c1, .slice A2 g.nodes.length c2, .slice A3 g.outs.length c3] : Array Value)[o]?) ∧ Grown W w' ∧ W.heap.size + 1 ≤ w'.heap.size) kKeep ?_
    rintro w1 ⟨b1, g1, s1⟩
    go_wp2_with fail
    refine (C1.out _ g1).mono ?_
    rintro e w2 ⟨rfl, p2⟩
    go_wp2_with fail
    go_ret
    exact ⟨rfl, grown_trans g1 p2⟩
end Go.Proofs.Ytgbedoffgahhaaa
