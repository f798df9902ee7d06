/- Whatever two numbers, and whatever three: FixedRises returns true, and changes nothing that it was handed.
   Conditions: none beyond the row's own cells. -/
import Derived.Test.YtceiljhokcghgaaFns
import Derived.Lib.Hide
import Derived.Handy
import Derived.ProofKit
import Derived.OpenShut
import Derived.Deep.RegionHeld3
import Derived.Laws.IdiomArrays
namespace Go.Proofs.Ytceiljhokcghgaa.fixedRises
open Go.ChangeShapes Go.WideShapes Go.ChangeAt Go.RowKit
set_option linter.unusedVariables false

theorem grown_cell {W w' : World} (h : Grown W w') {p : Addr} (hp : p.block < W.heap.size) : w'.cell? p = W.cell? p := by
  have k := h.1.2.2 p.block hp
  unfold World.cell?
  cases e1 : W.heap[p.block]? with
  | none => rw [e1] at k; simp at e1; omega
  | some o =>
    rw [e1] at k
    cases e2 : w'.heap[p.block]? with
    | none => rw [e2] at k; cases o <;> simp at k
    | some o' =>
      rw [e2] at k
      cases o <;> cases o' <;> simp_all

/-- The three cells of the array that came in, and nothing else of old memory turned. -/
theorem keeps_step {w0 w1 w2 : World} {b : Nat} {z0 z1 z2 : Value} (h : w1.cell? ⟨b, 0, none⟩ = some z0 ∧ w1.cell? ⟨b, 1, none⟩ = some z1 ∧ w1.cell? ⟨b, 2, none⟩ = some z2 ∧ Grown w0 w1 ∧ b < w1.heap.size) (g : Grown w1 w2) :
    w2.cell? ⟨b, 0, none⟩ = some z0 ∧ w2.cell? ⟨b, 1, none⟩ = some z1 ∧ w2.cell? ⟨b, 2, none⟩ = some z2 ∧ Grown w0 w2 ∧ b < w2.heap.size := by
  obtain ⟨h0, h1, h2, h3, h4⟩ := h
  exact ⟨(grown_cell g h4).trans h0, (grown_cell g h4).trans h1, (grown_cell g h4).trans h2, grown_trans h3 g, by have := g.2.2; omega⟩

set_option maxHeartbeats 1000000 in
theorem walk1 (a0 a1 z0 z1 z2 A B m s c p1 p2 q1 q2 r1 r2 c' r3 : Int) (w : World) (lt : a0 < a1)
    (hA : Hid (A = held (-2147483648) 2147483647 a0)) (hB : Hid (B = held (-2147483648) 2147483647 a1)) (hm : Hid (m = held 1 32767 z0)) (hs : Hid (s = held 0 31 z1)) (hc : Hid (c = held (-128) 127 z2))
    (hp1 : Hid (p1 = A * m)) (hp2 : Hid (p2 = B * m)) (hq1 : Hid (q1 = rd p1 (2 ^ s.toNat))) (hq2 : Hid (q2 = rd p2 (2 ^ s.toNat))) (hr1 : Hid (r1 = held (-128) 127 (c + q1))) (hr2 : Hid (r2 = held (-128) 127 (c + q2)))
    (hc' : Hid (c' = held (-128) 127 (c + 1))) (hr3 : Hid (r3 = held (-128) 127 (c' + q1)))
    (t1 : r1 ≤ r2) (t2 : -128 ≤ r1) (t3 : r2 ≤ 127) (t4 : r1 ≤ r3) (t5 : r3 ≤ r1 + 1) (t6 : r1 ≤ 127) (c1 : -128 ≤ c) (c2 : c ≤ 127)
    (e0 : Hid (0 = held (-2147483648) 2147483647 0)) (e1 : Hid (0 = 0 * m)) (e2 : Hid (0 = rd 0 (2 ^ s.toNat))) (e3 : Hid (c = held (-128) 127 (c + 0))) :
    Calls Try.prog 4 #[.int .i64 a0, .int .i64 a1, .agg #[.int .i64 z0, .int .i64 z1, .int .i64 z2]] w fun e w' => e = .returned (.bool true) ∧ Grown w w' := by
  go_enter Try.func4, Try.ntmps4
  go_wp2_with fail
  refine (shown_any _).mono ?_; rintro e w1 ⟨rfl, g1⟩
  have k1 := keeps_step (w0 := w) (w2 := w1) (b := w.heap.size) (z0 := .int .i64 z0) (z1 := .int .i64 z1) (z2 := .int .i64 z2) ⟨by go_cell, by go_cell, by go_cell, by go_grown, by simp⟩ g1
  go_wp2_with fail
  refine (scale_any a0 z0 z1 z2 A m s c p1 q1 r1 _ hA hm hs hc hp1 hq1 hr1).mono ?_; rintro e w2 ⟨rfl, g2⟩
  have k2 := keeps_step k1 g2
  clear k1
  go_wp2_with fail
  refine (scale_any a1 z0 z1 z2 B m s c p2 q2 r2 _ hB hm hs hc hp2 hq2 hr2).mono ?_; rintro e w3 ⟨rfl, g3⟩
  have k3 := keeps_step k2 g3
  clear k2 g1 g2 g3
  go_wp2_with fail
  have hsum : IntKind.i64.wrap (c + 1) = c + 1 := IntWalk.i64_in _ (by omega)
  go_region_held3 (fun w' => w'.cell? ⟨w.heap.size, 0, none⟩ = some (.int .i64 z0) ∧ w'.cell? ⟨w.heap.size, 1, none⟩ = some (.int .i64 z1) ∧ w'.cell? ⟨w.heap.size, 2, none⟩ = some (.int .i64 z2) ∧ Grown w w' ∧ w.heap.size < w'.heap.size)
    (first | assumption | exact keeps_step (by assumption) (by assumption) | exact keeps_step (by assumption) (Grown.refl _).drew)
    (first | (go_at_call 12; refine (clamp_at z2 c _ hc).mono ?_; rintro e w' ⟨rfl, g⟩) | (go_at_call 11; refine (scale_any a0 z0 z1 (c + 1) A m s c' p1 q1 r3 _ hA hm hs hc' hp1 hq1 hr3).mono ?_; rintro e w' ⟨rfl, g⟩))
  clear hsum k3
  go_wp2_with fail
  have d1 : decide (r1 ≤ r2) = true := by simpa using t1
  have d2 : decide (-128 ≤ r1) = true := by simpa using t2
  have d3 : decide (r2 ≤ 127) = true := by simpa using t3
  have d4 : decide (r1 ≤ r3) = true := by simpa using t4
  have d5 : decide (r3 ≤ r1 + 1) = true := by simpa using t5
  have hsum : IntKind.i64.wrap (r1 + 1) = r1 + 1 := IntWalk.i64_in _ (by omega)
  go_region_held3 (fun w' => w'.cell? ⟨w.heap.size, 0, none⟩ = some (.int .i64 z0) ∧ w'.cell? ⟨w.heap.size, 1, none⟩ = some (.int .i64 z1) ∧ w'.cell? ⟨w.heap.size, 2, none⟩ = some (.int .i64 z2) ∧ Grown w w' ∧ w.heap.size < w'.heap.size)
    (first | assumption | exact keeps_step (by assumption) (by assumption) | exact keeps_step (by assumption) (Grown.refl _).drew)
    (first | (go_at_call 12; refine (clamp_at z2 c _ hc).mono ?_; rintro e w' ⟨rfl, g⟩) | (go_at_call 11; refine (scale_any 0 z0 z1 z2 0 m s c 0 0 c _ e0 hm hs hc e1 e2 e3).mono ?_; rintro e w' ⟨rfl, g⟩))
  all_goals
    go_wp2_with fail
    go_ret
    rename_i hk
    exact ⟨rfl, hk.2.2.2.1⟩

set_option maxHeartbeats 1000000 in
theorem walk2 (a0 a1 z0 z1 z2 A B m s c p1 p2 q1 q2 r1 r2 c' r3 : Int) (w : World) (lt : a1 < a0)
    (hA : Hid (A = held (-2147483648) 2147483647 a1)) (hB : Hid (B = held (-2147483648) 2147483647 a0)) (hm : Hid (m = held 1 32767 z0)) (hs : Hid (s = held 0 31 z1)) (hc : Hid (c = held (-128) 127 z2))
    (hp1 : Hid (p1 = A * m)) (hp2 : Hid (p2 = B * m)) (hq1 : Hid (q1 = rd p1 (2 ^ s.toNat))) (hq2 : Hid (q2 = rd p2 (2 ^ s.toNat))) (hr1 : Hid (r1 = held (-128) 127 (c + q1))) (hr2 : Hid (r2 = held (-128) 127 (c + q2)))
    (hc' : Hid (c' = held (-128) 127 (c + 1))) (hr3 : Hid (r3 = held (-128) 127 (c' + q1)))
    (t1 : r1 ≤ r2) (t2 : -128 ≤ r1) (t3 : r2 ≤ 127) (t4 : r1 ≤ r3) (t5 : r3 ≤ r1 + 1) (t6 : r1 ≤ 127) (c1 : -128 ≤ c) (c2 : c ≤ 127)
    (e0 : Hid (0 = held (-2147483648) 2147483647 0)) (e1 : Hid (0 = 0 * m)) (e2 : Hid (0 = rd 0 (2 ^ s.toNat))) (e3 : Hid (c = held (-128) 127 (c + 0))) :
    Calls Try.prog 4 #[.int .i64 a0, .int .i64 a1, .agg #[.int .i64 z0, .int .i64 z1, .int .i64 z2]] w fun e w' => e = .returned (.bool true) ∧ Grown w w' := by
  go_enter Try.func4, Try.ntmps4
  go_wp2_with fail
  refine (shown_any _).mono ?_; rintro e w1 ⟨rfl, g1⟩
  have k1 := keeps_step (w0 := w) (w2 := w1) (b := w.heap.size) (z0 := .int .i64 z0) (z1 := .int .i64 z1) (z2 := .int .i64 z2) ⟨by go_cell, by go_cell, by go_cell, by go_grown, by simp⟩ g1
  go_wp2_with fail
  refine (scale_any a1 z0 z1 z2 A m s c p1 q1 r1 _ hA hm hs hc hp1 hq1 hr1).mono ?_; rintro e w2 ⟨rfl, g2⟩
  have k2 := keeps_step k1 g2
  clear k1
  go_wp2_with fail
  refine (scale_any a0 z0 z1 z2 B m s c p2 q2 r2 _ hB hm hs hc hp2 hq2 hr2).mono ?_; rintro e w3 ⟨rfl, g3⟩
  have k3 := keeps_step k2 g3
  clear k2 g1 g2 g3
  go_wp2_with fail
  have hsum : IntKind.i64.wrap (c + 1) = c + 1 := IntWalk.i64_in _ (by omega)
  go_region_held3 (fun w' => w'.cell? ⟨w.heap.size, 0, none⟩ = some (.int .i64 z0) ∧ w'.cell? ⟨w.heap.size, 1, none⟩ = some (.int .i64 z1) ∧ w'.cell? ⟨w.heap.size, 2, none⟩ = some (.int .i64 z2) ∧ Grown w w' ∧ w.heap.size < w'.heap.size)
    (first | assumption | exact keeps_step (by assumption) (by assumption) | exact keeps_step (by assumption) (Grown.refl _).drew)
    (first | (go_at_call 12; refine (clamp_at z2 c _ hc).mono ?_; rintro e w' ⟨rfl, g⟩) | (go_at_call 11; refine (scale_any a1 z0 z1 (c + 1) A m s c' p1 q1 r3 _ hA hm hs hc' hp1 hq1 hr3).mono ?_; rintro e w' ⟨rfl, g⟩))
  clear hsum k3
  go_wp2_with fail
  have d1 : decide (r1 ≤ r2) = true := by simpa using t1
  have d2 : decide (-128 ≤ r1) = true := by simpa using t2
  have d3 : decide (r2 ≤ 127) = true := by simpa using t3
  have d4 : decide (r1 ≤ r3) = true := by simpa using t4
  have d5 : decide (r3 ≤ r1 + 1) = true := by simpa using t5
  have hsum : IntKind.i64.wrap (r1 + 1) = r1 + 1 := IntWalk.i64_in _ (by omega)
  go_region_held3 (fun w' => w'.cell? ⟨w.heap.size, 0, none⟩ = some (.int .i64 z0) ∧ w'.cell? ⟨w.heap.size, 1, none⟩ = some (.int .i64 z1) ∧ w'.cell? ⟨w.heap.size, 2, none⟩ = some (.int .i64 z2) ∧ Grown w w' ∧ w.heap.size < w'.heap.size)
    (first | assumption | exact keeps_step (by assumption) (by assumption) | exact keeps_step (by assumption) (Grown.refl _).drew)
    (first | (go_at_call 12; refine (clamp_at z2 c _ hc).mono ?_; rintro e w' ⟨rfl, g⟩) | (go_at_call 11; refine (scale_any 0 z0 z1 z2 0 m s c 0 0 c _ e0 hm hs hc e1 e2 e3).mono ?_; rintro e w' ⟨rfl, g⟩))
  all_goals
    go_wp2_with fail
    go_ret
    rename_i hk
    exact ⟨rfl, hk.2.2.2.1⟩

set_option maxHeartbeats 1000000 in
theorem walk3 (a0 z0 z1 z2 A B m s c p1 p2 q1 q2 r1 r2 c' r3 : Int) (w : World) 
    (hA : Hid (A = held (-2147483648) 2147483647 a0)) (hB : Hid (B = held (-2147483648) 2147483647 a0)) (hm : Hid (m = held 1 32767 z0)) (hs : Hid (s = held 0 31 z1)) (hc : Hid (c = held (-128) 127 z2))
    (hp1 : Hid (p1 = A * m)) (hp2 : Hid (p2 = B * m)) (hq1 : Hid (q1 = rd p1 (2 ^ s.toNat))) (hq2 : Hid (q2 = rd p2 (2 ^ s.toNat))) (hr1 : Hid (r1 = held (-128) 127 (c + q1))) (hr2 : Hid (r2 = held (-128) 127 (c + q2)))
    (hc' : Hid (c' = held (-128) 127 (c + 1))) (hr3 : Hid (r3 = held (-128) 127 (c' + q1)))
    (t1 : r1 ≤ r2) (t2 : -128 ≤ r1) (t3 : r2 ≤ 127) (t4 : r1 ≤ r3) (t5 : r3 ≤ r1 + 1) (t6 : r1 ≤ 127) (c1 : -128 ≤ c) (c2 : c ≤ 127)
    (e0 : Hid (0 = held (-2147483648) 2147483647 0)) (e1 : Hid (0 = 0 * m)) (e2 : Hid (0 = rd 0 (2 ^ s.toNat))) (e3 : Hid (c = held (-128) 127 (c + 0))) :
    Calls Try.prog 4 #[.int .i64 a0, .int .i64 a0, .agg #[.int .i64 z0, .int .i64 z1, .int .i64 z2]] w fun e w' => e = .returned (.bool true) ∧ Grown w w' := by
  go_enter Try.func4, Try.ntmps4
  go_wp2_with fail
  refine (shown_any _).mono ?_; rintro e w1 ⟨rfl, g1⟩
  have k1 := keeps_step (w0 := w) (w2 := w1) (b := w.heap.size) (z0 := .int .i64 z0) (z1 := .int .i64 z1) (z2 := .int .i64 z2) ⟨by go_cell, by go_cell, by go_cell, by go_grown, by simp⟩ g1
  go_wp2_with fail
  refine (scale_any a0 z0 z1 z2 A m s c p1 q1 r1 _ hA hm hs hc hp1 hq1 hr1).mono ?_; rintro e w2 ⟨rfl, g2⟩
  have k2 := keeps_step k1 g2
  clear k1
  go_wp2_with fail
  refine (scale_any a0 z0 z1 z2 B m s c p2 q2 r2 _ hB hm hs hc hp2 hq2 hr2).mono ?_; rintro e w3 ⟨rfl, g3⟩
  have k3 := keeps_step k2 g3
  clear k2 g1 g2 g3
  go_wp2_with fail
  have hsum : IntKind.i64.wrap (c + 1) = c + 1 := IntWalk.i64_in _ (by omega)
  go_region_held3 (fun w' => w'.cell? ⟨w.heap.size, 0, none⟩ = some (.int .i64 z0) ∧ w'.cell? ⟨w.heap.size, 1, none⟩ = some (.int .i64 z1) ∧ w'.cell? ⟨w.heap.size, 2, none⟩ = some (.int .i64 z2) ∧ Grown w w' ∧ w.heap.size < w'.heap.size)
    (first | assumption | exact keeps_step (by assumption) (by assumption) | exact keeps_step (by assumption) (Grown.refl _).drew)
    (first | (go_at_call 12; refine (clamp_at z2 c _ hc).mono ?_; rintro e w' ⟨rfl, g⟩) | (go_at_call 11; refine (scale_any a0 z0 z1 (c + 1) A m s c' p1 q1 r3 _ hA hm hs hc' hp1 hq1 hr3).mono ?_; rintro e w' ⟨rfl, g⟩))
  clear hsum k3
  go_wp2_with fail
  have d1 : decide (r1 ≤ r2) = true := by simpa using t1
  have d2 : decide (-128 ≤ r1) = true := by simpa using t2
  have d3 : decide (r2 ≤ 127) = true := by simpa using t3
  have d4 : decide (r1 ≤ r3) = true := by simpa using t4
  have d5 : decide (r3 ≤ r1 + 1) = true := by simpa using t5
  have hsum : IntKind.i64.wrap (r1 + 1) = r1 + 1 := IntWalk.i64_in _ (by omega)
  go_region_held3 (fun w' => w'.cell? ⟨w.heap.size, 0, none⟩ = some (.int .i64 z0) ∧ w'.cell? ⟨w.heap.size, 1, none⟩ = some (.int .i64 z1) ∧ w'.cell? ⟨w.heap.size, 2, none⟩ = some (.int .i64 z2) ∧ Grown w w' ∧ w.heap.size < w'.heap.size)
    (first | assumption | exact keeps_step (by assumption) (by assumption) | exact keeps_step (by assumption) (Grown.refl _).drew)
    (first | (go_at_call 12; refine (clamp_at z2 c _ hc).mono ?_; rintro e w' ⟨rfl, g⟩) | (go_at_call 11; refine (scale_any 0 z0 z1 z2 0 m s c 0 0 c _ e0 hm hs hc e1 e2 e3).mono ?_; rintro e w' ⟨rfl, g⟩))
  all_goals
    go_wp2_with fail
    go_ret
    rename_i hk
    exact ⟨rfl, hk.2.2.2.1⟩

theorem held_mono (lo hi x y : Int) (h : x ≤ y) : held lo hi x ≤ held lo hi y := by unfold held; omega

/-- What the three walks ask, from the arguments alone. -/
theorem facts (lo hi z0 z1 z2 : Int) (h : lo ≤ hi) : ∃ A B m s c p1 p2 q1 q2 r1 r2 c' r3 : Int,
    Hid (A = held (-2147483648) 2147483647 lo) ∧ Hid (B = held (-2147483648) 2147483647 hi) ∧ Hid (m = held 1 32767 z0) ∧ Hid (s = held 0 31 z1) ∧ Hid (c = held (-128) 127 z2) ∧
    Hid (p1 = A * m) ∧ Hid (p2 = B * m) ∧ Hid (q1 = rd p1 (2 ^ s.toNat)) ∧ Hid (q2 = rd p2 (2 ^ s.toNat)) ∧ Hid (r1 = held (-128) 127 (c + q1)) ∧ Hid (r2 = held (-128) 127 (c + q2)) ∧
    Hid (c' = held (-128) 127 (c + 1)) ∧ Hid (r3 = held (-128) 127 (c' + q1)) ∧
    r1 ≤ r2 ∧ -128 ≤ r1 ∧ r2 ≤ 127 ∧ r1 ≤ r3 ∧ r3 ≤ r1 + 1 ∧ r1 ≤ 127 ∧ -128 ≤ c ∧ c ≤ 127 ∧
    Hid (0 = held (-2147483648) 2147483647 0) ∧ Hid (0 = 0 * m) ∧ Hid (0 = rd 0 (2 ^ s.toNat)) ∧ Hid (c = held (-128) 127 (c + 0)) := by
  have hs : held 0 31 z1 ≤ 31 := by unfold held; omega
  have p0 := (pow_bd _ hs).1
  have hm : 1 ≤ held 1 32767 z0 := by unfold held; omega
  have hAB : held (-2147483648) 2147483647 lo * held 1 32767 z0 ≤ held (-2147483648) 2147483647 hi * held 1 32767 z0 :=
    Int.mul_le_mul_of_nonneg_right (held_mono _ _ _ _ h) (by omega)
  have hq := rd_mono _ _ _ p0 hAB
  have hz : rd 0 (2 ^ (held 0 31 z1).toNat) = 0 := by
    have := rd_mul 0 _ p0
    rwa [Int.zero_mul] at this
  refine ⟨_, _, _, _, _, _, _, _, _, _, _, _, _, Lib.hid rfl, Lib.hid rfl, Lib.hid rfl, Lib.hid rfl, Lib.hid rfl, Lib.hid rfl, Lib.hid rfl, Lib.hid rfl, Lib.hid rfl, Lib.hid rfl, Lib.hid rfl, Lib.hid rfl, Lib.hid rfl, ?_, ?_, ?_, ?_, ?_, ?_, ?_, ?_, Lib.hid (by decide), Lib.hid (by rw [Int.zero_mul]), Lib.hid hz.symm, Lib.hid ?_⟩
  · exact held_mono _ _ _ _ (by omega)
  all_goals (generalize rd _ _ = q at *; clear hAB hz hq p0; unfold held; omega)

theorem walk (a0 a1 z0 z1 z2 : Int) (w : World) :
    Calls Try.prog 4 #[.int .i64 a0, .int .i64 a1, .agg #[.int .i64 z0, .int .i64 z1, .int .i64 z2]] w fun e w' => e = .returned (.bool true) ∧ Grown w w' := by
  by_cases lt : a0 < a1
  · obtain ⟨A, B, m, s, c, p1, p2, q1, q2, r1, r2, c', r3, hA, hB, hm, hs, hc, hp1, hp2, hq1, hq2, hr1, hr2, hc', hr3, t1, t2, t3, t4, t5, t6, c1, c2, e0, e1, e2, e3⟩ := facts a0 a1 z0 z1 z2 (by omega)
    exact walk1 a0 a1 z0 z1 z2 A B m s c p1 p2 q1 q2 r1 r2 c' r3 w lt hA hB hm hs hc hp1 hp2 hq1 hq2 hr1 hr2 hc' hr3 t1 t2 t3 t4 t5 t6 c1 c2 e0 e1 e2 e3
  · by_cases gt : a1 < a0
    · obtain ⟨A, B, m, s, c, p1, p2, q1, q2, r1, r2, c', r3, hA, hB, hm, hs, hc, hp1, hp2, hq1, hq2, hr1, hr2, hc', hr3, t1, t2, t3, t4, t5, t6, c1, c2, e0, e1, e2, e3⟩ := facts a1 a0 z0 z1 z2 (by omega)
      exact walk2 a0 a1 z0 z1 z2 A B m s c p1 p2 q1 q2 r1 r2 c' r3 w gt hA hB hm hs hc hp1 hp2 hq1 hq2 hr1 hr2 hc' hr3 t1 t2 t3 t4 t5 t6 c1 c2 e0 e1 e2 e3
    · obtain rfl : a0 = a1 := by omega
      obtain ⟨A, B, m, s, c, p1, p2, q1, q2, r1, r2, c', r3, hA, hB, hm, hs, hc, hp1, hp2, hq1, hq2, hr1, hr2, hc', hr3, t1, t2, t3, t4, t5, t6, c1, c2, e0, e1, e2, e3⟩ := facts a0 a0 z0 z1 z2 (by omega)
      exact walk3 a0 z0 z1 z2 A B m s c p1 p2 q1 q2 r1 r2 c' r3 w hA hB hm hs hc hp1 hp2 hq1 hq2 hr1 hr2 hc' hr3 t1 t2 t3 t4 t5 t6 c1 c2 e0 e1 e2 e3

theorem own : ownKnob Try.prog.godebug = none := by kernel_rfl
theorem cells3 : Try.prog.cellsOf 3 = 1 := by kernel_rfl
theorem cells25 : Try.prog.cellsOf 25 = 3 := by kernel_rfl
theorem list3 {α : Type} (l : List α) (h : (⟨l⟩ : Array α).size = 3) : ∃ a b c, l = [a, b, c] := by
  match l, h with
  | [a, b, c], _ => exact ⟨a, b, c, rfl⟩

set_option maxHeartbeats 400000 in
set_option maxRecDepth 100000 in
theorem lifted (os : Os) (started : os.Started) (H : Type) (enc : TypeId × Value → H) :
    ReturnsInHanded {} Try.checked os 4 .any (Rows.fixedRisesSpec.pre6 enc Try.prog Try.f4 Rows.fixedRisesRow.domain false) (Rows.fixedRisesSpec.post enc Try.prog Try.f4 false true false false) := by
  refine returnsInHanded_of_change (C := Try.checked) own started (by kernel_rfl) Try.func4
    (ChangeSpec.witness6 (enc := enc) (C := Try.checked) false ⟨#[], #[.int .i64 0, .int .i64 0, .agg #[.int .i64 0, .int .i64 0, .int .i64 0]], []⟩ 8 (by kernel_rfl) (by kernel_rfl) (by kernel_rfl) (by kernel_rfl)) ?_
  intro W base args ds gs before hval0 hW hcnd _
  have hval : ∀ (j : Nat) t v, Try.f4.params[j]? = some t → args[j]? = some v → Value.okWide Try.prog W .any base t v := hval0
  have hW' := hW
  obtain ⟨p, q, hA0, hV, rfl, hfz, hnd⟩ := hW
  have hA : DataW.TrodAll enc Try.prog W 0 (fun _ => true) true Try.f4.params.toList args.toList ds p := hA0
  rw [Try.params4] at hA hval
  obtain ⟨v0, vs0, d0, ds0, p0, q0, hargs, rfl, rfl, h0, r0⟩ := trodAll_cons hA
  obtain ⟨v1, vs1, d1, ds1, p1, q1, rfl, rfl, rfl, h1, r1⟩ := trodAll_cons r0
  obtain ⟨v2, vs2, d2, ds2, p2, q2, rfl, rfl, rfl, h2, r2⟩ := trodAll_cons r1
  obtain ⟨rfl, rfl, rfl⟩ := trodAll_nil r2
  obtain rfl : args = #[v0, v1, v2] := by cases args; simp_all
  obtain ⟨rfl, rfl⟩ := trodVars_none hV
  obtain ⟨a0, rfl, rfl, rfl, w0⟩ := open_int Try.underlying3 (hval 0 3 v0 rfl rfl) h0
  obtain ⟨a1, rfl, rfl, rfl, w1⟩ := open_int Try.underlying3 (hval 1 3 v1 rfl rfl) h1
  obtain ⟨cs, rfl, hsz, _⟩ : ∃ cs, v2 = .agg cs ∧ cs.size = Try.prog.cellsOf 25 ∧ Row.okWide Try.prog W .any base 25 cs := by
    have := hval 2 25 v2 rfl rfl
    simpa [Value.okWide, Try.underlying25] using this
  rw [cells25] at hsz
  obtain ⟨l⟩ := cs
  obtain ⟨k0, k1, k2, rfl⟩ := list3 l hsz
  obtain ⟨fuel, hf⟩ := h2
  obtain ⟨y0, y1, y2, m, hx, hy0, hy1, hy2⟩ := trod_array3 Try.underlying25 cells3 hf
  obtain ⟨z0, e0, rfl, x0⟩ := DataW.trod_int Try.underlying3 hy0
  obtain ⟨z1, e1, rfl, x1⟩ := DataW.trod_int Try.underlying3 hy1
  obtain ⟨z2, e2, rfl, x2⟩ := DataW.trod_int Try.underlying3 hy2
  simp at e0 e1 e2
  subst e0 e1 e2
  simp only [Prod.mk.injEq] at hx
  obtain ⟨rfl, rfl⟩ := hx
  clear hA0 hval0
  simp only [List.append_nil] at hW'
  refine (walk a0 a1 z0 z1 z2 W).mono fun e W' ⟨he, hg⟩ => ?_
  subst he
  have rdA : ∀ sp : Nat → Bool, DataW.Trod enc Try.prog W' 0 sp true 25 (.agg #[.int .i64 z0, .int .i64 z1, .int .i64 z2]) (DataW.agg [.lit (.int .i64 z0), .lit (.int .i64 z1), .lit (.int .i64 z2)]) [] := fun sp => ⟨2, by simp [DataW.trod, Value.cells, Try.underlying25, Try.underlying3, cells25, cells3, x0, x1, x2, show List.range 3 = [0, 1, 2] from rfl]⟩
  exact ⟨_, rfl, post_of_same (pa := []) (pv := []) hW' (fun _ _ _ => (trodAll_cons_mk (shut_bool Try.underlying4 _) trodAll_mk0)) (fun sp _ => (trodAll_cons_mk (shut_int Try.underlying3 w0) (trodAll_cons_mk (shut_int Try.underlying3 w1) (trodAll_cons_mk (rdA sp) trodAll_mk0)))) (fun _ _ => rfl) rfl
    (hg.frame _) hg.2.1 (ok_one (by kernel_rfl) rfl (okWide_bool_mk Try.underlying4 _))⟩

theorem over : Rows.fixedRisesRow.holds Try.pinned (OpenSpec.ofChange Rows.fixedRisesSpec) :=
  OpenClaim.holds_of_wide 4 Try.f4 rfl rfl rfl rfl rfl rfl rfl ⟨rfl, rfl, rfl, rfl, rfl⟩ rfl rfl rfl rfl rfl (by kernel_rfl) Try.func4 (by kernel_rfl)
    (of_decide_eq_true (by kernel_rfl)) (by unfold Func.isWrapper; first | (rw [if_pos (by decide +kernel)]; kernel_rfl) | (rw [if_neg (by decide +kernel)]; exact ⟨rfl, rfl⟩))
    (fun os started H enc _ => lifted os started H enc)

/-- THE STATEMENT -/
theorem proved : Rows.FixedRisesSaid :=
  over
#print axioms proved
end Go.Proofs.Ytceiljhokcghgaa.fixedRises
