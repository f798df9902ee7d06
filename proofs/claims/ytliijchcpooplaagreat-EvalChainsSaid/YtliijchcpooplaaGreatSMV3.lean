/- begins. quiltref05: Same of equal rows. kern's rows, number by number. -/
import Derived.Test.YtliijchcpooplaaGreatSMG12
import Derived.Test.YtliijchcpooplaaGreatSMV1
import Derived.Laws.OwnMore
import Derived.Test.YtliijchcpooplaaGreatSMKWe
import Derived.Test.YtliijchcpooplaaGreatSMFxMath
namespace Go.Proofs.YtliijchcpooplaaGreat
open Go.ChangeShapes Go.WideShapes Go.ChangeAt Go.RowKit
set_option maxRecDepth 20000
set_option linter.unusedVariables false

open Classical in
/-- What is wrong with a graph ahead of its nodes. -/
noncomputable def beginsE (g : GraphD) : Int :=
  if 4 < g.ins.length ∨ 12 < g.nodes.length ∨ 4 < g.outs.length then 3 else
  if g.ins.length = 0 ∨ g.outs.length = 0 then 13 else
  if ¬ (∀ j, j < g.ins.length → mayV (g.ins.getD j default)) then 10 else
  if ¬ (∀ j, j < g.ins.length → -128 ≤ (g.ins.getD j default).z ∧ (g.ins.getD j default).z ≤ 127) then 11 else 0
theorem enters_may : ∀ (xs : Array Value) (w : World), (callFunc 48 xs).run Tryz.prog w = .ok (.enter 48 xs) w := fun xs w => by kernel_rfl
theorem enters_badZero : ∀ (xs : Array Value) (w : World), (callFunc 49 xs).run Tryz.prog w = .ok (.enter 49 xs) w := fun xs w => by kernel_rfl
set_option maxHeartbeats 4000000 in
theorem begins_any (g : GraphD) (A1 A2 A3 : Option Addr) (c1 c2 c3 : Nat) (W : World) (q : Int) (hq : Hid (q = beginsE g)) (hi : IsVals W (.slice A1 g.ins.length c1) g.ins) (l2 : g.nodes.length ≤ maxLen) (l3 : g.outs.length ≤ maxLen) :
    Calls Tryz.prog 34 #[.agg #[.slice A1 g.ins.length c1, .slice A2 g.nodes.length c2, .slice A3 g.outs.length c3]] W fun e w' => e = .returned (.int .i64 q) ∧ Grown W w' := by
  have l1 : g.ins.length ≤ maxLen := by
    obtain ⟨A, c, e, h1, h2, _⟩ := hi
    omega
  have HI := Lib.hid hi
  have m1 : g.ins.length ≤ 9223372036854775807 := by unfold maxLen at l1; omega
  have m2 : g.nodes.length ≤ 9223372036854775807 := by unfold maxLen at l2; omega
  have m3 : g.outs.length ≤ 9223372036854775807 := by unfold maxLen at l3; omega
  clear hi l1 l2 l3
  have hq' := hq.out
  unfold beginsE at hq'
  by_cases k1 : 4 < g.ins.length
  · rw [if_pos (.inl k1)] at hq'
    subst hq'
    have d1 : decide ((4 : Int) < (g.ins.length : Int)) = true := by simp; omega
    clear hq
    go_enter Tryz.func34, Tryz.ntmps34
    go_wp2_with fail
    go_ret
    exact ⟨rfl, by go_grown⟩
  have d1 : decide ((4 : Int) < (g.ins.length : Int)) = false := by simp; omega
  by_cases k2 : 12 < g.nodes.length
  · rw [if_pos (.inr (.inl k2))] at hq'
    subst hq'
    have d2 : decide ((12 : Int) < (g.nodes.length : Int)) = true := by simp; omega
    clear hq
    go_enter Tryz.func34, Tryz.ntmps34
    go_wp2_with fail
    go_ret
    exact ⟨rfl, by go_grown⟩
  have d2 : decide ((12 : Int) < (g.nodes.length : Int)) = false := by simp; omega
  by_cases k3 : 4 < g.outs.length
  · rw [if_pos (.inr (.inr k3))] at hq'
    subst hq'
    have d3 : decide ((4 : Int) < (g.outs.length : Int)) = true := by simp; omega
    clear hq
    go_enter Tryz.func34, Tryz.ntmps34
    go_wp2_with fail
    go_ret
    exact ⟨rfl, by go_grown⟩
  have d3 : decide ((4 : Int) < (g.outs.length : Int)) = false := by simp; omega
  rw [if_neg (by omega)] at hq'
  by_cases k4 : g.ins.length = 0
  · rw [if_pos (.inl k4)] at hq'
    subst hq'
    have d4 : ((g.ins.length : Int) == 0) = true := by simp [k4]
    have k4' := Lib.hid k4
    clear hq k4
    go_enter Tryz.func34, Tryz.ntmps34
    go_wp2_with fail
    go_ret
    exact ⟨rfl, by go_grown⟩
  have d4 : ((g.ins.length : Int) == 0) = false := by simp only [beq_eq_false_iff_ne, ne_eq]; omega
  by_cases k5 : g.outs.length = 0
  · rw [if_pos (.inr k5)] at hq'
    subst hq'
    have d5 : ((g.outs.length : Int) == 0) = true := by simp [k5]
    have k5' := Lib.hid k5
    clear hq k5
    go_enter Tryz.func34, Tryz.ntmps34
    go_wp2_with fail
    go_ret
    exact ⟨rfl, by go_grown⟩
  have d5 : ((g.outs.length : Int) == 0) = false := by simp only [beq_eq_false_iff_ne, ne_eq]; omega
  rw [if_neg (by omega)] at hq'
  have F1 : Hid (∀ x ∈ g.ins, ∀ w, Calls Tryz.prog 48 #[.agg #[.int .i64 x.h, .int .i64 x.w, .int .i64 x.c, .int .i64 x.z]] w fun e w' => e = .returned (.bool (!mayB (shD x))) ∧ Grown w w') := Lib.hid (fun x _ w => mayNotBe_any x.h x.w x.c x.z w)
  have F2 : Hid (∀ x ∈ g.ins, ∀ w, Calls Tryz.prog 49 #[.agg #[.int .i64 x.h, .int .i64 x.w, .int .i64 x.c, .int .i64 x.z]] w fun e w' => e = .returned (.bool (!holdB (-128) 127 x.z)) ∧ Grown w w') := Lib.hid (fun x _ w => badZero_any x.h x.w x.c x.z w)
  by_cases k6 : ∀ j, j < g.ins.length → mayV (g.ins.getD j default)
  · rw [if_neg (fun h => h k6)] at hq'
    have t1 : Hid (false = true ↔ ∃ j, j < g.ins.length ∧ (!mayB (shD (g.ins.getD j default))) = true) := Lib.hid ⟨fun j => Bool.noConfusion j, fun ⟨j, h1, h2⟩ => by
      rw [show mayB (shD (g.ins.getD j default)) = true from mayB_t (k6 j h1)] at h2
      cases h2⟩
    have C1 := Lib.hid (fun w (p : Grown W w) => containsVals_any _ (fun x => !mayB (shD x)) g.ins _ w false (HI.out.grow (Grown.past p)) enters_may F1.out t1)
    by_cases k7 : ∀ j, j < g.ins.length → -128 ≤ (g.ins.getD j default).z ∧ (g.ins.getD j default).z ≤ 127
    · rw [if_neg (fun h => h k7)] at hq'
      subst hq'
      have t2 : Hid (false = true ↔ ∃ j, j < g.ins.length ∧ (!holdB (-128) 127 (g.ins.getD j default).z) = true) := Lib.hid ⟨fun j => Bool.noConfusion j, fun ⟨j, h1, h2⟩ => by
        rw [holdB_t.mpr (k7 j h1)] at h2
        cases h2⟩
      have C2 := Lib.hid (fun w (p : Grown W w) => containsVals_any _ (fun x => !holdB (-128) 127 x.z) g.ins _ w false (HI.out.grow (Grown.past p)) enters_badZero F2.out t2)
      clear hq k6 k7 k4 k5
      go_enter Tryz.func34, Tryz.ntmps34
      go_upto_region 1 with fail
      refine opq (fun w' => (Bx w' (W.heap.size) #[.slice A1 g.ins.length c1, .slice A2 g.nodes.length c2, .slice A3 g.outs.length c3]) ∧ Grown W w' ∧ W.heap.size + 1 ≤ w'.heap.size) kKeep ?_
      rintro w1 ⟨b1, g1, s1⟩
      go_wp2_with fail
      refine (C1.out _ g1).mono ?_
      rintro e w2 ⟨rfl, p2⟩
      obtain ⟨b2, g2, s2⟩ : (Bx w2 (W.heap.size) #[.slice A1 g.ins.length c1, .slice A2 g.nodes.length c2, .slice A3 g.outs.length c3]) ∧ Grown W w2 ∧ W.heap.size + 1 ≤ w2.heap.size := by (exact kKeep)
      clear b1 g1 s1 p2
      go_wp2_with fail
      refine (C2.out _ g2).mono ?_
      rintro e w3 ⟨rfl, p3⟩
      go_wp2_with fail
      go_ret
      exact ⟨rfl, grown_trans g2 p3⟩
    · rw [if_pos k7] at hq'
      subst hq'
      have t2 : Hid (true = true ↔ ∃ j, j < g.ins.length ∧ (!holdB (-128) 127 (g.ins.getD j default).z) = true) := Lib.hid ⟨fun _ => by
        apply Classical.byContradiction
        intro c
        apply k7
        intro j hj
        apply Classical.byContradiction
        intro d
        apply c
        refine ⟨j, hj, ?_⟩
        rw [holdB_f.mpr d]
        rfl, fun _ => rfl⟩
      have C2 := Lib.hid (fun w (p : Grown W w) => containsVals_any _ (fun x => !holdB (-128) 127 x.z) g.ins _ w true (HI.out.grow (Grown.past p)) enters_badZero F2.out t2)
      clear hq k6 k7 k4 k5
      go_enter Tryz.func34, Tryz.ntmps34
      go_upto_region 1 with fail
      refine opq (fun w' => (Bx w' (W.heap.size) #[.slice A1 g.ins.length c1, .slice A2 g.nodes.length c2, .slice A3 g.outs.length c3]) ∧ Grown W w' ∧ W.heap.size + 1 ≤ w'.heap.size) kKeep ?_
      rintro w1 ⟨b1, g1, s1⟩
      go_wp2_with fail
      refine (C1.out _ g1).mono ?_
      rintro e w2 ⟨rfl, p2⟩
      obtain ⟨b2, g2, s2⟩ : (Bx w2 (W.heap.size) #[.slice A1 g.ins.length c1, .slice A2 g.nodes.length c2, .slice A3 g.outs.length c3]) ∧ Grown W w2 ∧ W.heap.size + 1 ≤ w2.heap.size := by (exact kKeep)
      clear b1 g1 s1 p2
      go_wp2_with fail
      refine (C2.out _ g2).mono ?_
      rintro e w3 ⟨rfl, p3⟩
      go_wp2_with fail
      go_ret
      exact ⟨rfl, grown_trans g2 p3⟩
  · rw [if_pos k6] at hq'
    subst hq'
    have t1 : Hid (true = true ↔ ∃ j, j < g.ins.length ∧ (!mayB (shD (g.ins.getD j default))) = true) := Lib.hid ⟨fun _ => by
      apply Classical.byContradiction
      intro c
      apply k6
      intro j hj
      apply Classical.byContradiction
      intro d
      apply c
      refine ⟨j, hj, ?_⟩
      rw [show mayB (shD (g.ins.getD j default)) = false from mayB_f d]
      rfl, fun _ => rfl⟩
    have C1 := Lib.hid (fun w (p : Grown W w) => containsVals_any _ (fun x => !mayB (shD x)) g.ins _ w true (HI.out.grow (Grown.past p)) enters_may F1.out t1)
    clear hq k6 k4 k5
    go_enter Tryz.func34, Tryz.ntmps34
    go_upto_region 1 with fail
    refine opq (fun w' => (Bx w' (W.heap.size) #[.slice A1 g.ins.length c1, .slice A2 g.nodes.length c2, .slice A3 g.outs.length c3]) ∧ Grown W w' ∧ W.heap.size + 1 ≤ w'.heap.size) kKeep ?_
    rintro w1 ⟨b1, g1, s1⟩
    go_wp2_with fail
    refine (C1.out _ g1).mono ?_
    rintro e w2 ⟨rfl, p2⟩
    go_wp2_with fail
    go_ret
    exact ⟨rfl, grown_trans g1 p2⟩
end Go.Proofs.YtliijchcpooplaaGreat
namespace Go.Proofs.YtliijchcpooplaaGreat
open Go.ChangeShapes Go.WideShapes Go.ChangeAt Go.RowKit
set_option maxRecDepth 20000
set_option linter.unusedVariables false

def fillF (ls : List Int) (i : Nat) : Int := if 0 < ls.length then ls.getD (i % ls.length) 0 else 0
theorem own8_new {w : World} {base : Nat} (hb : base ≤ w.heap.size) : Own8 (w.alloc (.cells #[] 35)) base (.slice (some ⟨w.heap.size, 0, none⟩) 0 0) [] := World.ownsRow_lit w #[] 0 hb (by decide) (by simp)
theorem size_nn (h w c : Int) : 0 ≤ sizeI h w c := by
  by_cases k : mayS h w c
  · exact Int.le_trans (by decide) (idx_lt_size k).1
  · unfold sizeI; rw [if_neg k]; exact Int.le_refl 0
set_option maxHeartbeats 4000000 in
theorem same_eq (a b : Value) (xs : List Int) (W : World) (ha : IsNums .i8 W a xs) (hb : IsNums .i8 W b xs) :
    Calls Tryz.prog 15 #[a, b] W fun e w' => e = .returned (.bool true) ∧ Grown W w' := by
  have HA := Lib.hid ha
  have HB := Lib.hid hb
  obtain ⟨A1, c1, rfl, a1, a2, _⟩ := ha
  obtain ⟨A2, c2, rfl, b1, b2, _⟩ := hb
  have k1 : xs.length ≤ 9223372036854775807 := by unfold maxLen at a2; omega
  clear a2 b2
  go_enter Tryz.func15, Tryz.ntmps15
  go_wp2_with fail
  go_loopw [5] (fun i wr => ∃ k : Nat, k ≤ xs.length ∧ i = .int .i64 k ∧ Grown W wr) (fun i _ => xs.length - (intOf i).toNat)
  case atStart => exact ⟨0, by omega, rfl, Grown.refl _⟩
  case round =>
    obtain ⟨k, hk, rfl, g⟩ := hrel
    by_cases h : k < xs.length
    · obtain ⟨b, o, e, _, _, _, hbl, hc⟩ := nums_parts HA.out (by omega)
      obtain ⟨b', o', e', _, _, _, hbl', hc'⟩ := nums_parts HB.out (by omega)
      subst e e'
      obtain ⟨x, hx⟩ : ∃ x, xs.getD k 0 = x := ⟨_, rfl⟩
      have c0 := (grown_cell (p := ⟨b, o + k, none⟩) g hbl).trans (hc k h).1
      have c0' := (grown_cell (p := ⟨b', o' + k, none⟩) g hbl').trans (hc' k h).1
      rw [hx] at c0 c0'
      have d1 : decide ((k : Int) < (xs.length : Int)) = true := by simp; omega
      have i1 : (0 : Int) ≤ (k : Int) := by omega
      have i2 : (k : Int) < (xs.length : Int) := by omega
      clear hc hc' hx
      go_upto_region 6 with fail
      refine wp_region_fill (fun w' => w'.cell? ⟨b, o + k, none⟩ = some (.int .i8 x) ∧ w'.cell? ⟨b', o' + k, none⟩ = some (.int .i8 x) ∧ Grown W w') [(17, ?va17), (18, ?va18), (19, ?va19), (20, ?va20), (21, ?va21), (22, ?va22), (23, ?va23), (24, ?va24), (25, ?va25)] [17, 18, 19, 20, 21, 22, 23, 24, 25] (by kernel_rfl) (by kernel_rfl) rfl (by kernel_rfl) ⟨c0, c0', g⟩ (fun w h => h) ?alla ?fina
      case alla =>
        simp only [fillA, Act.put, List.setIfInBounds_toArray, List.set_cons_zero, List.set_cons_succ]
        iterate 9 (refine owes_cons (fun w hw K hK => ?_) ?_; focus ((have hS := Lib.hid hw); go_split_ands; go_simp; (try simp only [Act.put, List.setIfInBounds_toArray, List.set_cons_zero, List.set_cons_succ]); first | exact hK _ hS.out))
        exact True.intro
      case fina =>
        rintro w9 ⟨_, _, g9⟩
        simp only [fillA, Act.put, List.setIfInBounds_toArray, List.set_cons_zero, List.set_cons_succ]
        go_wp2_with fail
        go_roundw
        case rel => exact ⟨k + 1, by omega, by go_num, g9⟩
        case measure => simp [intOf]; omega
    · obtain rfl : k = xs.length := by omega
      have d1 : decide ((xs.length : Int) < (xs.length : Int)) = false := by simp
      go_wp2_with fail
      go_ret
      exact ⟨rfl, g⟩
end Go.Proofs.YtliijchcpooplaaGreat
namespace Go.Proofs.YtliijchcpooplaaGreat
open Go.ChangeShapes Go.WideShapes Go.ChangeAt Go.RowKit
set_option maxRecDepth 20000
set_option linter.unusedVariables false

theorem place_lt {H W C y x c : Nat} (hy : y < H) (hx : x < W) (hc : c < C) : (y * W + x) * C + c < H * (W * C) := by
  have h1 : (y * W + x + 1) * C ≤ (H * W) * C := Nat.mul_le_mul_right C (by
    have : (y + 1) * W ≤ H * W := Nat.mul_le_mul_right W hy
    rw [Nat.add_mul, Nat.one_mul] at this
    omega)
  rw [Nat.add_mul, Nat.one_mul] at h1
  rw [← Nat.mul_assoc]
  omega
theorem place_of {H W C i : Nat} (hi : i < H * (W * C)) : ∃ y x c, y < H ∧ x < W ∧ c < C ∧ i = (y * W + x) * C + c := by
  have c0 : 0 < C := by rcases Nat.eq_zero_or_pos C with e | e
                        · subst e; simp at hi
                        · exact e
  have w0 : 0 < W := by rcases Nat.eq_zero_or_pos W with e | e
                        · subst e; simp at hi
                        · exact e
  refine ⟨i / C / W, i / C % W, i % C, ?_, Nat.mod_lt _ w0, Nat.mod_lt _ c0, ?_⟩
  · rw [Nat.div_div_eq_div_mul, Nat.mul_comm C W]
    exact Nat.div_lt_of_lt_mul (by rw [Nat.mul_comm]; exact hi)
  · have e1 := Nat.div_add_mod i C
    have e2 := Nat.div_add_mod (i / C) W
    rw [Nat.mul_comm W] at e2
    rw [e2, Nat.mul_comm]
    exact e1.symm
theorem allL_at (n : NodeD) (a b : ViewD) (m : Int × Int × Int) {H W C y x c : Nat} (hC : m.2.2.toNat = C) (hy : y < H) (hx : x < W) (hc : c < C) :
    (allL n a b m (W * C) (H * (W * C))).getD ((y * W + x) * C + c) 0 = numD n a b m y x c := by
  have hlt := place_lt hy hx hc
  have hr : x * C + c < W * C := by
    have : (x + 1) * C ≤ W * C := Nat.mul_le_mul_right C hx
    rw [Nat.add_mul, Nat.one_mul] at this
    omega
  have e : (y * W + x) * C + c = (W * C) * y + (x * C + c) := by
    rw [Nat.add_mul, Nat.add_assoc, Nat.mul_assoc, Nat.mul_comm y]
  have key : (allL n a b m (W * C) (H * (W * C))).getD ((y * W + x) * C + c) 0 = allF n a b m (W * C) ((y * W + x) * C + c) := by
    unfold allL
    simp [List.getD, hlt]
  rw [key]
  unfold allF
  rw [e, Nat.mul_add_div (by omega), Nat.div_eq_of_lt hr, Nat.add_zero, Nat.mul_add_mod, Nat.mod_eq_of_lt hr, ← hC]
  exact rowF_at n a b m y x c (by rw [hC]; exact hc)
end Go.Proofs.YtliijchcpooplaaGreat
