/- RegionMoves: its walk, one case. -/
import Derived.Test.YtgbedoffgahhaaaSWh
namespace Go.Proofs.Ytgbedoffgahhaaa
open Go.ChangeShapes Go.WideShapes Go.ChangeAt Go.RowKit
set_option maxRecDepth 20000
set_option linter.unusedVariables false
set_option linter.unusedSimpArgs false
set_option maxHeartbeats 8000000 in
theorem moves_1 (W : World) (a b : SpD) (ha : a.w = false) (hb : b.w = true) (by' : Int) (hy : (Lit.int .u8 by').wf = true) : Calls Try.prog 5 #[.agg #[.int .i64 a.m, .int .i64 a.f, .int .i64 a.t, .bool a.w], .agg #[.int .i64 b.m, .int .i64 b.f, .int .i64 b.t, .bool b.w], .int .u8 by'] W fun e w' => e = .returned (.bool true) ∧ Past W w' := by
  obtain ⟨am, af, at', aw⟩ := a
  obtain ⟨bm, bf, bt, bw⟩ := b
  dsimp only at ha hb ⊢
  subst ha hb
  have hy' : 0 ≤ by' ∧ by' ≤ 255 := by simpa [Lit.wf, IntKind.min, IntKind.max, IntKind.bits, IntKind.signed] using hy
  clear hy
  obtain ⟨x1, x2⟩ := mask_bd am 1 (by omega) (by omega)
  obtain ⟨x3, x4⟩ := mask_bd af 63 (by omega) (by omega)
  obtain ⟨x5, x6⟩ := mask_bd at' 63 (by omega) (by omega)
  obtain ⟨y1, y2⟩ := mask_bd bm 1 (by omega) (by omega)
  obtain ⟨y3, y4⟩ := mask_bd bf 63 (by omega) (by omega)
  obtain ⟨y5, y6⟩ := mask_bd bt 63 (by omega) (by omega)
  obtain ⟨m1, hm1⟩ : ∃ z, bits .and .i64 am 1 = z := ⟨_, rfl⟩
  obtain ⟨f1, hf1⟩ : ∃ z, bits .and .i64 af 63 = z := ⟨_, rfl⟩
  obtain ⟨t1, ht1⟩ : ∃ z, bits .and .i64 at' 63 = z := ⟨_, rfl⟩
  obtain ⟨m2, hm2⟩ : ∃ z, bits .and .i64 bm 1 = z := ⟨_, rfl⟩
  obtain ⟨f2, hf2⟩ : ∃ z, bits .and .i64 bf 63 = z := ⟨_, rfl⟩
  obtain ⟨t2, ht2⟩ : ∃ z, bits .and .i64 bt 63 = z := ⟨_, rfl⟩
  rw [hm1] at x1 x2
  rw [hf1] at x3 x4
  rw [ht1] at x5 x6
  rw [hm2] at y1 y2
  rw [hf2] at y3 y4
  rw [ht2] at y5 y6
  obtain ⟨T1, hT1⟩ : ∃ z, f1 + t1 = z := ⟨_, rfl⟩
  obtain ⟨T2, hT2⟩ : ∃ z, f2 + t2 = z := ⟨_, rfl⟩
  obtain ⟨d, hd⟩ : ∃ d, (if T1 - f1 < 1 then T1 - f1 else 1) = d := ⟨_, rfl⟩
  have hd' : 0 ≤ d ∧ d ≤ 1 := by split at hd <;> omega
  obtain ⟨u, hu⟩ : ∃ u, u = meets ⟨m1, f1, T1, false⟩ ⟨m2, f2, T2, true⟩ := ⟨_, rfl⟩
  have HU := Lib.hid (hu.trans (clash_one _ _).symm)
  have HU' := Lib.hid hu
  clear hu
  have HM := Lib.hid (show u = clashD [⟨m1, f1 + by', T1 + by', false⟩] [⟨m2, f2 + by', T2 + by', true⟩] by rw [clash_one, moved_meets]; exact HU'.out)
  have HO := Lib.hid (show false = clashD [⟨m1, f1 + by', T1 + by', false⟩] [⟨1 - m1, f2 + by', T2 + by', true⟩] by rw [clash_one, other_meets _ _ _ _ _ _ _ ⟨x1, x2⟩])
  obtain ⟨z, hz⟩ : ∃ z, z = (decide (f1 < T1) && (false || true)) := ⟨_, rfl⟩
  have HZ := Lib.hid (show z = clashD [⟨m1, f1, T1, false⟩] [⟨m1, f1, f1 + d, true⟩] by rw [clash_one, within_meets m1 f1 T1 d _ _ hd (by omega)]; exact hz)
  have HZ' := Lib.hid hz
  clear hz
  have WP := Lib.hid (show SpWf ⟨m1, f1 + by', T1 + by', false⟩ from ⟨wf64 (x := m1) (by omega), wf64 (x := f1 + by') (by omega), wf64 (x := T1 + by') (by omega)⟩)
  have WQ := Lib.hid (show SpWf ⟨m2, f2 + by', T2 + by', true⟩ from ⟨wf64 (x := m2) (by omega), wf64 (x := f2 + by') (by omega), wf64 (x := T2 + by') (by omega)⟩)
  have WO := Lib.hid (show SpWf ⟨1 - m1, f2 + by', T2 + by', true⟩ from ⟨wf64 (x := 1 - m1) (by omega), wf64 (x := f2 + by') (by omega), wf64 (x := T2 + by') (by omega)⟩)
  have WI := Lib.hid (show SpWf ⟨m1, f1, f1 + d, true⟩ from ⟨wf64 (x := m1) (by omega), wf64 (x := f1) (by omega), wf64 (x := f1 + d) (by omega)⟩)
  have WX := Lib.hid (show SpWf ⟨m1, f1, T1, false⟩ from ⟨wf64 (x := m1) (by omega), wf64 (x := f1) (by omega), wf64 (x := T1) (by omega)⟩)
  have WY := Lib.hid (show SpWf ⟨m2, f2, T2, true⟩ from ⟨wf64 (x := m2) (by omega), wf64 (x := f2) (by omega), wf64 (x := T2) (by omega)⟩)
  go_enter Try.func5, Try.ntmps5
  go_upto_region 1 with fail
  obtain ⟨P, hP⟩ : ∃ P, W.heap.size = P := ⟨_, rfl⟩
  refine opq (fun w' => (∀ o : Nat, w'.cell? ⟨P, o, none⟩ = (#[.int .i64 am, .int .i64 af, .int .i64 at', .bool false] : Array Value)[o]?) ∧ (∀ o : Nat, w'.cell? ⟨P + 1, o, none⟩ = (#[.int .i64 bm, .int .i64 bf, .int .i64 bt, .bool true] : Array Value)[o]?) ∧ Past W w' ∧ P + 2 ≤ w'.heap.size) (by subst hP; (exact kKeep)) ?_
  rintro w0 ⟨a0, b0, p0, z0⟩
  try simp only [hP]
  clear hP
  go_upto_region 2 with (go_at_call 7; (with_reducible refine (shown_any _).mono ?_); rintro e w1 ⟨rfl, p1⟩)
  have a1 := box_past p1 a0 (by omega)
  have b1 := box_past p1 b0 (by omega)
  have z1 : P + 2 ≤ w1.heap.size := Nat.le_trans z0 p1.2.2.1
  have P1 := Lib.hid (p0.trans p1)
  clear a0 b0 z0 p0 p1
  have pp1 : Past w1 w1 := Past.refl w1
  obtain ⟨N, hN⟩ : ∃ N, w1.heap.size = N := ⟨_, rfl⟩
  have gN : P + 2 ≤ N := by rw [← hN]; exact z1
  have r1 : w1.heap.size ≤ N := Nat.le_of_eq hN
  go_upto_region 3 with fail
  refine opq (fun w' => (∀ o : Nat, w'.cell? ⟨P, o, none⟩ = (#[.int .i64 am, .int .i64 af, .int .i64 at', .bool false] : Array Value)[o]?) ∧ (∀ o : Nat, w'.cell? ⟨P + 1, o, none⟩ = (#[.int .i64 bm, .int .i64 bf, .int .i64 bt, .bool true] : Array Value)[o]?) ∧ (∀ o : Nat, w'.cell? ⟨N, o, none⟩ = (#[.int .i64 m1, .int .i64 f1, .int .i64 0, .bool false] : Array Value)[o]?) ∧ (∀ o : Nat, w'.frozen? ⟨N, o, none⟩ = false) ∧ Past w1 w' ∧ N + 1 ≤ w'.heap.size) (by subst hN; (exact kKeep)) ?_
  rintro w2 ⟨a2, b2, x2, fx2, pp2, z2⟩
  clear a1 b1 z1 hN pp1
  obtain ⟨M, hM⟩ : ∃ M, w2.heap.size = M := ⟨_, rfl⟩
  have gM : N + 1 ≤ M := by rw [← hM]; exact z2
  go_upto_region 4 with fail
  refine opq (fun w' => (∀ o : Nat, w'.cell? ⟨P, o, none⟩ = (#[.int .i64 am, .int .i64 af, .int .i64 at', .bool false] : Array Value)[o]?) ∧ (∀ o : Nat, w'.cell? ⟨P + 1, o, none⟩ = (#[.int .i64 bm, .int .i64 bf, .int .i64 bt, .bool true] : Array Value)[o]?) ∧ (∀ o : Nat, w'.cell? ⟨N, o, none⟩ = (#[.int .i64 m1, .int .i64 f1, .int .i64 0, .bool false] : Array Value)[o]?) ∧ (∀ o : Nat, w'.cell? ⟨M, o, none⟩ = (#[.int .i64 m2, .int .i64 f2, .int .i64 0, .bool true] : Array Value)[o]?) ∧ (∀ o : Nat, w'.frozen? ⟨N, o, none⟩ = false) ∧ (∀ o : Nat, w'.frozen? ⟨M, o, none⟩ = false) ∧ Past w1 w' ∧ M + 1 ≤ w'.heap.size) (by subst hM; (exact kKeep)) ?_
  rintro w3 ⟨a3, b3, x3, y3, fx3, fy3, pp3, z3⟩
  clear a2 b2 x2 fx2 z2 hM pp2
  go_upto_region 5 with fail
  refine opq (fun w' => (∀ o : Nat, w'.cell? ⟨P, o, none⟩ = (#[.int .i64 am, .int .i64 af, .int .i64 at', .bool false] : Array Value)[o]?) ∧ (∀ o : Nat, w'.cell? ⟨P + 1, o, none⟩ = (#[.int .i64 bm, .int .i64 bf, .int .i64 bt, .bool true] : Array Value)[o]?) ∧ (∀ o : Nat, w'.cell? ⟨N, o, none⟩ = (#[.int .i64 m1, .int .i64 f1, .int .i64 T1, .bool false] : Array Value)[o]?) ∧ (∀ o : Nat, w'.cell? ⟨M, o, none⟩ = (#[.int .i64 m2, .int .i64 f2, .int .i64 0, .bool true] : Array Value)[o]?) ∧ (∀ o : Nat, w'.frozen? ⟨N, o, none⟩ = false) ∧ (∀ o : Nat, w'.frozen? ⟨M, o, none⟩ = false) ∧ Past w1 w' ∧ M + 1 ≤ w'.heap.size) ⟨by (exact kKeep), by (exact kKeep), box_upd x3 2 (by simp) _, by (exact kKeep), by (exact kKeep), by (exact kKeep), by (exact kKeep), by (exact kKeep)⟩ ?_
  rintro w4 ⟨a4, b4, x4, y4, fx4, fy4, pp4, z4⟩
  clear a3 b3 x3 y3 fx3 fy3 z3 pp3
  go_upto_region 6 with fail
  refine opq (fun w' => (∀ o : Nat, w'.cell? ⟨P, o, none⟩ = (#[.int .i64 am, .int .i64 af, .int .i64 at', .bool false] : Array Value)[o]?) ∧ (∀ o : Nat, w'.cell? ⟨P + 1, o, none⟩ = (#[.int .i64 bm, .int .i64 bf, .int .i64 bt, .bool true] : Array Value)[o]?) ∧ (∀ o : Nat, w'.cell? ⟨N, o, none⟩ = (#[.int .i64 m1, .int .i64 f1, .int .i64 T1, .bool false] : Array Value)[o]?) ∧ (∀ o : Nat, w'.cell? ⟨M, o, none⟩ = (#[.int .i64 m2, .int .i64 f2, .int .i64 T2, .bool true] : Array Value)[o]?) ∧ (∀ o : Nat, w'.frozen? ⟨N, o, none⟩ = false) ∧ (∀ o : Nat, w'.frozen? ⟨M, o, none⟩ = false) ∧ Past w1 w' ∧ M + 1 ≤ w'.heap.size) ⟨by (exact kKeep), by (exact kKeep), by (exact kKeep), box_upd y4 2 (by simp) _, by (exact kKeep), by (exact kKeep), by (exact kKeep), by (exact kKeep)⟩ ?_
  rintro w5 ⟨a5, b5, x5, y5, fx5, fy5, pp5, z5⟩
  clear a4 b4 x4 y4 fx4 fy4 z4 pp4
  clear a5 b5
  have al5 : ∀ o : Nat, (w5.alloc (.cells #[.int .i64 m1, .int .i64 f1, .int .i64 T1, .bool false] 28)).cell? ⟨M, o, none⟩ = (#[.int .i64 m2, .int .i64 f2, .int .i64 T2, .bool true] : Array Value)[o]? := box_old y5 (by omega)
  have CL5 := Lib.hid (fun w p q (hp : (∀ o : Nat, w.cell? ⟨p, o, none⟩ = (#[.int .i64 m1, .int .i64 f1, .int .i64 T1, .bool false] : Array Value)[o]?)) (hq : (∀ o : Nat, w.cell? ⟨q, o, none⟩ = (#[.int .i64 m2, .int .i64 f2, .int .i64 T2, .bool true] : Array Value)[o]?)) => clashS_any [⟨m1, f1, T1, false⟩] [⟨m2, f2, T2, true⟩] _ _ u w (spans_lit (x := ⟨m1, f1, T1, false⟩) hp WX.out) (spans_lit (x := ⟨m2, f2, T2, true⟩) hq WY.out) HU)
  go_upto_region 7 with (go_at_call 11; (with_reducible refine (CL5.out _ _ _ ?h1 ?h2).mono ?_); (case h1 => (exact kKeep)); (case h2 => (exact kKeep)); rintro e w6 ⟨rfl, g6⟩)
  have v6 : Past w5 w6 := (((Past.refl w5).alloc _).alloc _).trans (Grown.past g6)
  have pp6 := pp5.trans v6
  have x6 := box_past v6 x5 (by omega)
  have y6 := box_past v6 y5 (by omega)
  have fx6 := free_past v6 fx5 (by omega)
  have fy6 := free_past v6 fy5 (by omega)
  have z6 : M + 1 ≤ w6.heap.size := Nat.le_trans z5 v6.2.2.1
  clear x5 y5 fx5 fy5 z5 al5 CL5 g6 v6 pp5
  obtain ⟨Q, hQ⟩ : ∃ Q, w6.heap.size = Q := ⟨_, rfl⟩
  have gQ : M + 1 ≤ Q := by rw [← hQ]; exact z6
  go_upto_region 8 with fail
  refine opq (fun w' => (∀ o : Nat, w'.cell? ⟨N, o, none⟩ = (#[.int .i64 m1, .int .i64 f1, .int .i64 T1, .bool false] : Array Value)[o]?) ∧ (∀ o : Nat, w'.cell? ⟨M, o, none⟩ = (#[.int .i64 m2, .int .i64 f2, .int .i64 T2, .bool true] : Array Value)[o]?) ∧ (∀ o : Nat, w'.cell? ⟨Q, o, none⟩ = (#[.int .i64 m1, .int .i64 f1, .int .i64 T1, .bool false] : Array Value)[o]?) ∧ (∀ o : Nat, w'.frozen? ⟨N, o, none⟩ = false) ∧ (∀ o : Nat, w'.frozen? ⟨M, o, none⟩ = false) ∧ (∀ o : Nat, w'.frozen? ⟨Q, o, none⟩ = false) ∧ Past w1 w' ∧ Q + 1 ≤ w'.heap.size) (by subst hQ; (exact kKeep)) ?_
  rintro w7 ⟨x7, y7, p7, fx7, fy7, fp7, pp7, z7⟩
  clear x6 y6 fx6 fy6 z6 hQ pp6
  obtain ⟨R, hR⟩ : ∃ R, w7.heap.size = R := ⟨_, rfl⟩
  have gR : Q + 1 ≤ R := by rw [← hR]; exact z7
  go_upto_region 9 with fail
  refine opq (fun w' => (∀ o : Nat, w'.cell? ⟨N, o, none⟩ = (#[.int .i64 m1, .int .i64 f1, .int .i64 T1, .bool false] : Array Value)[o]?) ∧ (∀ o : Nat, w'.cell? ⟨M, o, none⟩ = (#[.int .i64 m2, .int .i64 f2, .int .i64 T2, .bool true] : Array Value)[o]?) ∧ (∀ o : Nat, w'.cell? ⟨Q, o, none⟩ = (#[.int .i64 m1, .int .i64 f1, .int .i64 T1, .bool false] : Array Value)[o]?) ∧ (∀ o : Nat, w'.cell? ⟨R, o, none⟩ = (#[.int .i64 m2, .int .i64 f2, .int .i64 T2, .bool true] : Array Value)[o]?) ∧ (∀ o : Nat, w'.frozen? ⟨N, o, none⟩ = false) ∧ (∀ o : Nat, w'.frozen? ⟨M, o, none⟩ = false) ∧ (∀ o : Nat, w'.frozen? ⟨Q, o, none⟩ = false) ∧ (∀ o : Nat, w'.frozen? ⟨R, o, none⟩ = false) ∧ Past w1 w' ∧ R + 1 ≤ w'.heap.size) (by subst hR; (exact kKeep)) ?_
  rintro w8 ⟨x8, y8, p8, q8, fx8, fy8, fp8, fq8, pp8, z8⟩
  clear x7 y7 p7 fx7 fy7 fp7 z7 hR pp7
  go_upto_region 10 with fail
  refine opq (fun w' => (∀ o : Nat, w'.cell? ⟨N, o, none⟩ = (#[.int .i64 m1, .int .i64 f1, .int .i64 T1, .bool false] : Array Value)[o]?) ∧ (∀ o : Nat, w'.cell? ⟨M, o, none⟩ = (#[.int .i64 m2, .int .i64 f2, .int .i64 T2, .bool true] : Array Value)[o]?) ∧ (∀ o : Nat, w'.cell? ⟨Q, o, none⟩ = (#[.int .i64 m1, .int .i64 (f1 + by'), .int .i64 T1, .bool false] : Array Value)[o]?) ∧ (∀ o : Nat, w'.cell? ⟨R, o, none⟩ = (#[.int .i64 m2, .int .i64 f2, .int .i64 T2, .bool true] : Array Value)[o]?) ∧ (∀ o : Nat, w'.frozen? ⟨N, o, none⟩ = false) ∧ (∀ o : Nat, w'.frozen? ⟨M, o, none⟩ = false) ∧ (∀ o : Nat, w'.frozen? ⟨Q, o, none⟩ = false) ∧ (∀ o : Nat, w'.frozen? ⟨R, o, none⟩ = false) ∧ Past w1 w' ∧ R + 1 ≤ w'.heap.size) ⟨by (exact kKeep), by (exact kKeep), box_upd p8 1 (by simp) _, by (exact kKeep), by (exact kKeep), by (exact kKeep), by (exact kKeep), by (exact kKeep), by (exact kKeep), by (exact kKeep)⟩ ?_
  rintro w9 ⟨x9, y9, p9, q9, fx9, fy9, fp9, fq9, pp9, z9⟩
  clear x8 y8 p8 q8 fx8 fy8 fp8 fq8 z8 pp8
  go_upto_region 11 with fail
  refine opq (fun w' => (∀ o : Nat, w'.cell? ⟨N, o, none⟩ = (#[.int .i64 m1, .int .i64 f1, .int .i64 T1, .bool false] : Array Value)[o]?) ∧ (∀ o : Nat, w'.cell? ⟨M, o, none⟩ = (#[.int .i64 m2, .int .i64 f2, .int .i64 T2, .bool true] : Array Value)[o]?) ∧ (∀ o : Nat, w'.cell? ⟨Q, o, none⟩ = (#[.int .i64 m1, .int .i64 (f1 + by'), .int .i64 (T1 + by'), .bool false] : Array Value)[o]?) ∧ (∀ o : Nat, w'.cell? ⟨R, o, none⟩ = (#[.int .i64 m2, .int .i64 f2, .int .i64 T2, .bool true] : Array Value)[o]?) ∧ (∀ o : Nat, w'.frozen? ⟨N, o, none⟩ = false) ∧ (∀ o : Nat, w'.frozen? ⟨M, o, none⟩ = false) ∧ (∀ o : Nat, w'.frozen? ⟨Q, o, none⟩ = false) ∧ (∀ o : Nat, w'.frozen? ⟨R, o, none⟩ = false) ∧ Past w1 w' ∧ R + 1 ≤ w'.heap.size) ⟨by (exact kKeep), by (exact kKeep), box_upd p9 2 (by simp) _, by (exact kKeep), by (exact kKeep), by (exact kKeep), by (exact kKeep), by (exact kKeep), by (exact kKeep), by (exact kKeep)⟩ ?_
  rintro w10 ⟨x10, y10, p10, q10, fx10, fy10, fp10, fq10, pp10, z10⟩
  clear x9 y9 p9 q9 fx9 fy9 fp9 fq9 z9 pp9
  go_upto_region 12 with fail
  refine opq (fun w' => (∀ o : Nat, w'.cell? ⟨N, o, none⟩ = (#[.int .i64 m1, .int .i64 f1, .int .i64 T1, .bool false] : Array Value)[o]?) ∧ (∀ o : Nat, w'.cell? ⟨M, o, none⟩ = (#[.int .i64 m2, .int .i64 f2, .int .i64 T2, .bool true] : Array Value)[o]?) ∧ (∀ o : Nat, w'.cell? ⟨Q, o, none⟩ = (#[.int .i64 m1, .int .i64 (f1 + by'), .int .i64 (T1 + by'), .bool false] : Array Value)[o]?) ∧ (∀ o : Nat, w'.cell? ⟨R, o, none⟩ = (#[.int .i64 m2, .int .i64 (f2 + by'), .int .i64 T2, .bool true] : Array Value)[o]?) ∧ (∀ o : Nat, w'.frozen? ⟨N, o, none⟩ = false) ∧ (∀ o : Nat, w'.frozen? ⟨M, o, none⟩ = false) ∧ (∀ o : Nat, w'.frozen? ⟨Q, o, none⟩ = false) ∧ (∀ o : Nat, w'.frozen? ⟨R, o, none⟩ = false) ∧ Past w1 w' ∧ R + 1 ≤ w'.heap.size) ⟨by (exact kKeep), by (exact kKeep), by (exact kKeep), box_upd q10 1 (by simp) _, by (exact kKeep), by (exact kKeep), by (exact kKeep), by (exact kKeep), by (exact kKeep), by (exact kKeep)⟩ ?_
  rintro w11 ⟨x11, y11, p11, q11, fx11, fy11, fp11, fq11, pp11, z11⟩
  clear x10 y10 p10 q10 fx10 fy10 fp10 fq10 z10 pp10
  go_upto_region 13 with fail
  refine opq (fun w' => (∀ o : Nat, w'.cell? ⟨N, o, none⟩ = (#[.int .i64 m1, .int .i64 f1, .int .i64 T1, .bool false] : Array Value)[o]?) ∧ (∀ o : Nat, w'.cell? ⟨M, o, none⟩ = (#[.int .i64 m2, .int .i64 f2, .int .i64 T2, .bool true] : Array Value)[o]?) ∧ (∀ o : Nat, w'.cell? ⟨Q, o, none⟩ = (#[.int .i64 m1, .int .i64 (f1 + by'), .int .i64 (T1 + by'), .bool false] : Array Value)[o]?) ∧ (∀ o : Nat, w'.cell? ⟨R, o, none⟩ = (#[.int .i64 m2, .int .i64 (f2 + by'), .int .i64 (T2 + by'), .bool true] : Array Value)[o]?) ∧ (∀ o : Nat, w'.frozen? ⟨N, o, none⟩ = false) ∧ (∀ o : Nat, w'.frozen? ⟨M, o, none⟩ = false) ∧ (∀ o : Nat, w'.frozen? ⟨Q, o, none⟩ = false) ∧ (∀ o : Nat, w'.frozen? ⟨R, o, none⟩ = false) ∧ Past w1 w' ∧ R + 1 ≤ w'.heap.size) ⟨by (exact kKeep), by (exact kKeep), by (exact kKeep), box_upd q11 2 (by simp) _, by (exact kKeep), by (exact kKeep), by (exact kKeep), by (exact kKeep), by (exact kKeep), by (exact kKeep)⟩ ?_
  rintro w12 ⟨x12, y12, p12, q12, fx12, fy12, fp12, fq12, pp12, z12⟩
  clear x11 y11 p11 q11 fx11 fy11 fp11 fq11 z11 pp11
  have al12 : ∀ o : Nat, (w12.alloc (.cells #[.int .i64 m1, .int .i64 (f1 + by'), .int .i64 (T1 + by'), .bool false] 28)).cell? ⟨R, o, none⟩ = (#[.int .i64 m2, .int .i64 (f2 + by'), .int .i64 (T2 + by'), .bool true] : Array Value)[o]? := box_old q12 (by omega)
  have CL12 := Lib.hid (fun w p q (hp : (∀ o : Nat, w.cell? ⟨p, o, none⟩ = (#[.int .i64 m1, .int .i64 (f1 + by'), .int .i64 (T1 + by'), .bool false] : Array Value)[o]?)) (hq : (∀ o : Nat, w.cell? ⟨q, o, none⟩ = (#[.int .i64 m2, .int .i64 (f2 + by'), .int .i64 (T2 + by'), .bool true] : Array Value)[o]?)) => clashS_any [⟨m1, f1 + by', T1 + by', false⟩] [⟨m2, f2 + by', T2 + by', true⟩] _ _ u w (spans_lit (x := ⟨m1, f1 + by', T1 + by', false⟩) hp WP.out) (spans_lit (x := ⟨m2, f2 + by', T2 + by', true⟩) hq WQ.out) HM)
  go_upto_region 14 with (go_at_call 11; (with_reducible refine (CL12.out _ _ _ ?h1 ?h2).mono ?_); (case h1 => (exact kKeep)); (case h2 => (exact kKeep)); rintro e w13 ⟨rfl, g13⟩)
  have v13 : Past w12 w13 := (((Past.refl w12).alloc _).alloc _).trans (Grown.past g13)
  have pp13 := pp12.trans v13
  have x13 := box_past v13 x12 (by omega)
  have y13 := box_past v13 y12 (by omega)
  have p13 := box_past v13 p12 (by omega)
  have q13 := box_past v13 q12 (by omega)
  have fx13 := free_past v13 fx12 (by omega)
  have fy13 := free_past v13 fy12 (by omega)
  have fp13 := free_past v13 fp12 (by omega)
  have fq13 := free_past v13 fq12 (by omega)
  have z13 : R + 1 ≤ w13.heap.size := Nat.le_trans z12 v13.2.2.1
  clear x12 y12 p12 q12 fx12 fy12 fp12 fq12 z12 al12 CL12 g13 v13 pp12
  go_upto_region 15 with fail
  refine opq (fun w' => (∀ o : Nat, w'.cell? ⟨N, o, none⟩ = (#[.int .i64 m1, .int .i64 f1, .int .i64 T1, .bool false] : Array Value)[o]?) ∧ (∀ o : Nat, w'.cell? ⟨M, o, none⟩ = (#[.int .i64 m2, .int .i64 f2, .int .i64 T2, .bool true] : Array Value)[o]?) ∧ (∀ o : Nat, w'.cell? ⟨Q, o, none⟩ = (#[.int .i64 m1, .int .i64 (f1 + by'), .int .i64 (T1 + by'), .bool false] : Array Value)[o]?) ∧ (∀ o : Nat, w'.cell? ⟨R, o, none⟩ = (#[.int .i64 (1 - m1), .int .i64 (f2 + by'), .int .i64 (T2 + by'), .bool true] : Array Value)[o]?) ∧ (∀ o : Nat, w'.frozen? ⟨N, o, none⟩ = false) ∧ (∀ o : Nat, w'.frozen? ⟨M, o, none⟩ = false) ∧ (∀ o : Nat, w'.frozen? ⟨Q, o, none⟩ = false) ∧ (∀ o : Nat, w'.frozen? ⟨R, o, none⟩ = false) ∧ Past w1 w' ∧ R + 1 ≤ w'.heap.size) ⟨by (exact kKeep), by (exact kKeep), by (exact kKeep), box_upd q13 0 (by simp) _, by (exact kKeep), by (exact kKeep), by (exact kKeep), by (exact kKeep), by (exact kKeep), by (exact kKeep)⟩ ?_
  rintro w14 ⟨x14, y14, p14, q14, fx14, fy14, fp14, fq14, pp14, z14⟩
  clear x13 y13 p13 q13 fx13 fy13 fp13 fq13 z13 pp13
  have al14 : ∀ o : Nat, (w14.alloc (.cells #[.int .i64 m1, .int .i64 (f1 + by'), .int .i64 (T1 + by'), .bool false] 28)).cell? ⟨R, o, none⟩ = (#[.int .i64 (1 - m1), .int .i64 (f2 + by'), .int .i64 (T2 + by'), .bool true] : Array Value)[o]? := box_old q14 (by omega)
  have CL14 := Lib.hid (fun w p q (hp : (∀ o : Nat, w.cell? ⟨p, o, none⟩ = (#[.int .i64 m1, .int .i64 (f1 + by'), .int .i64 (T1 + by'), .bool false] : Array Value)[o]?)) (hq : (∀ o : Nat, w.cell? ⟨q, o, none⟩ = (#[.int .i64 (1 - m1), .int .i64 (f2 + by'), .int .i64 (T2 + by'), .bool true] : Array Value)[o]?)) => clashS_any [⟨m1, f1 + by', T1 + by', false⟩] [⟨1 - m1, f2 + by', T2 + by', true⟩] _ _ false w (spans_lit (x := ⟨m1, f1 + by', T1 + by', false⟩) hp WP.out) (spans_lit (x := ⟨1 - m1, f2 + by', T2 + by', true⟩) hq WO.out) HO)
  go_upto_region 16 with (go_at_call 11; (with_reducible refine (CL14.out _ _ _ ?h1 ?h2).mono ?_); (case h1 => (exact kKeep)); (case h2 => (exact kKeep)); rintro e w15 ⟨rfl, g15⟩)
  have v15 : Past w14 w15 := (((Past.refl w14).alloc _).alloc _).trans (Grown.past g15)
  have pp15 := pp14.trans v15
  have x15 := box_past v15 x14 (by omega)
  have y15 := box_past v15 y14 (by omega)
  have p15 := box_past v15 p14 (by omega)
  have q15 := box_past v15 q14 (by omega)
  have fx15 := free_past v15 fx14 (by omega)
  have fy15 := free_past v15 fy14 (by omega)
  have fp15 := free_past v15 fp14 (by omega)
  have fq15 := free_past v15 fq14 (by omega)
  have z15 : R + 1 ≤ w15.heap.size := Nat.le_trans z14 v15.2.2.1
  clear x14 y14 p14 q14 fx14 fy14 fp14 fq14 z14 al14 CL14 g15 v15 pp14
  clear p15 fp15
  clear q15 fq15
  obtain ⟨S, hS⟩ : ∃ S, w15.heap.size = S := ⟨_, rfl⟩
  have gS : R + 1 ≤ S := by rw [← hS]; exact z15
  go_upto_region 17 with fail
  refine opq (fun w' => (∀ o : Nat, w'.cell? ⟨N, o, none⟩ = (#[.int .i64 m1, .int .i64 f1, .int .i64 T1, .bool false] : Array Value)[o]?) ∧ (∀ o : Nat, w'.cell? ⟨M, o, none⟩ = (#[.int .i64 m2, .int .i64 f2, .int .i64 T2, .bool true] : Array Value)[o]?) ∧ (∀ o : Nat, w'.cell? ⟨S, o, none⟩ = (#[.int .i64 m2, .int .i64 f2, .int .i64 T2, .bool true] : Array Value)[o]?) ∧ (∀ o : Nat, w'.frozen? ⟨N, o, none⟩ = false) ∧ (∀ o : Nat, w'.frozen? ⟨M, o, none⟩ = false) ∧ (∀ o : Nat, w'.frozen? ⟨S, o, none⟩ = false) ∧ Past w1 w' ∧ S + 1 ≤ w'.heap.size) (by subst hS; (exact kKeep)) ?_
  rintro w16 ⟨x16, y16, i16, fx16, fy16, fi16, pp16, z16⟩
  clear x15 y15 fx15 fy15 z15 hS pp15
  go_upto_region 18 with fail
  refine opq (fun w' => (∀ o : Nat, w'.cell? ⟨N, o, none⟩ = (#[.int .i64 m1, .int .i64 f1, .int .i64 T1, .bool false] : Array Value)[o]?) ∧ (∀ o : Nat, w'.cell? ⟨M, o, none⟩ = (#[.int .i64 m2, .int .i64 f2, .int .i64 T2, .bool true] : Array Value)[o]?) ∧ (∀ o : Nat, w'.cell? ⟨S, o, none⟩ = (#[.int .i64 m1, .int .i64 f2, .int .i64 T2, .bool true] : Array Value)[o]?) ∧ (∀ o : Nat, w'.frozen? ⟨N, o, none⟩ = false) ∧ (∀ o : Nat, w'.frozen? ⟨M, o, none⟩ = false) ∧ (∀ o : Nat, w'.frozen? ⟨S, o, none⟩ = false) ∧ Past w1 w' ∧ S + 1 ≤ w'.heap.size) ⟨by (exact kKeep), by (exact kKeep), box_upd i16 0 (by simp) _, by (exact kKeep), by (exact kKeep), by (exact kKeep), by (exact kKeep), by (exact kKeep)⟩ ?_
  rintro w17 ⟨x17, y17, i17, fx17, fy17, fi17, pp17, z17⟩
  clear x16 y16 i16 fx16 fy16 fi16 z16 pp16
  go_upto_region 19 with fail
  refine opq (fun w' => (∀ o : Nat, w'.cell? ⟨N, o, none⟩ = (#[.int .i64 m1, .int .i64 f1, .int .i64 T1, .bool false] : Array Value)[o]?) ∧ (∀ o : Nat, w'.cell? ⟨M, o, none⟩ = (#[.int .i64 m2, .int .i64 f2, .int .i64 T2, .bool true] : Array Value)[o]?) ∧ (∀ o : Nat, w'.cell? ⟨S, o, none⟩ = (#[.int .i64 m1, .int .i64 f1, .int .i64 T2, .bool true] : Array Value)[o]?) ∧ (∀ o : Nat, w'.frozen? ⟨N, o, none⟩ = false) ∧ (∀ o : Nat, w'.frozen? ⟨M, o, none⟩ = false) ∧ (∀ o : Nat, w'.frozen? ⟨S, o, none⟩ = false) ∧ Past w1 w' ∧ S + 1 ≤ w'.heap.size) ⟨by (exact kKeep), by (exact kKeep), box_upd i17 1 (by simp) _, by (exact kKeep), by (exact kKeep), by (exact kKeep), by (exact kKeep), by (exact kKeep)⟩ ?_
  rintro w18 ⟨x18, y18, i18, fx18, fy18, fi18, pp18, z18⟩
  clear x17 y17 i17 fx17 fy17 fi17 z17 pp17
  go_upto_region 20 with fail
  refine opq (fun w' => (∀ o : Nat, w'.cell? ⟨N, o, none⟩ = (#[.int .i64 m1, .int .i64 f1, .int .i64 T1, .bool false] : Array Value)[o]?) ∧ (∀ o : Nat, w'.cell? ⟨M, o, none⟩ = (#[.int .i64 m2, .int .i64 f2, .int .i64 T2, .bool true] : Array Value)[o]?) ∧ (∀ o : Nat, w'.cell? ⟨S, o, none⟩ = (#[.int .i64 m1, .int .i64 f1, .int .i64 (f1 + d), .bool true] : Array Value)[o]?) ∧ (∀ o : Nat, w'.frozen? ⟨N, o, none⟩ = false) ∧ (∀ o : Nat, w'.frozen? ⟨M, o, none⟩ = false) ∧ (∀ o : Nat, w'.frozen? ⟨S, o, none⟩ = false) ∧ Past w1 w' ∧ S + 1 ≤ w'.heap.size) ⟨by (exact kKeep), by (exact kKeep), box_upd i18 2 (by simp) _, by (exact kKeep), by (exact kKeep), by (exact kKeep), by (exact kKeep), by (exact kKeep)⟩ ?_
  rintro w19 ⟨x19, y19, i19, fx19, fy19, fi19, pp19, z19⟩
  clear x18 y18 i18 fx18 fy18 fi18 z18 pp18
  have al19 : ∀ o : Nat, (w19.alloc (.cells #[.int .i64 m1, .int .i64 f1, .int .i64 T1, .bool false] 28)).cell? ⟨S, o, none⟩ = (#[.int .i64 m1, .int .i64 f1, .int .i64 (f1 + d), .bool true] : Array Value)[o]? := box_old i19 (by omega)
  have CL19 := Lib.hid (fun w p q (hp : (∀ o : Nat, w.cell? ⟨p, o, none⟩ = (#[.int .i64 m1, .int .i64 f1, .int .i64 T1, .bool false] : Array Value)[o]?)) (hq : (∀ o : Nat, w.cell? ⟨q, o, none⟩ = (#[.int .i64 m1, .int .i64 f1, .int .i64 (f1 + d), .bool true] : Array Value)[o]?)) => clashS_any [⟨m1, f1, T1, false⟩] [⟨m1, f1, f1 + d, true⟩] _ _ z w (spans_lit (x := ⟨m1, f1, T1, false⟩) hp WX.out) (spans_lit (x := ⟨m1, f1, f1 + d, true⟩) hq WI.out) HZ)
  go_upto_region 21 with (go_at_call 11; (with_reducible refine (CL19.out _ _ _ ?h1 ?h2).mono ?_); (case h1 => (exact kKeep)); (case h2 => (exact kKeep)); rintro e w20 ⟨rfl, g20⟩)
  have v20 : Past w19 w20 := (((Past.refl w19).alloc _).alloc _).trans (Grown.past g20)
  have pp20 := pp19.trans v20
  have x20 := box_past v20 x19 (by omega)
  have y20 := box_past v20 y19 (by omega)
  have i20 := box_past v20 i19 (by omega)
  have fx20 := free_past v20 fx19 (by omega)
  have fy20 := free_past v20 fy19 (by omega)
  have fi20 := free_past v20 fi19 (by omega)
  have z20 : S + 1 ≤ w20.heap.size := Nat.le_trans z19 v20.2.2.1
  clear x19 y19 i19 fx19 fy19 fi19 z19 al19 CL19 g20 v20 pp19
  clear i20 fi20
  have b5 : f1 ≤ T1 ∧ T1 ≤ 126 := by omega
  have b6 : f2 ≤ T2 ∧ T2 ≤ 126 := by omega
  clear hm1 hf1 ht1 hm2 hf2 ht2 hT1 hT2 hd hd' x5 x6 y5 y6 hy' HU HM HO HZ WP WQ WO WI WY gN gM gQ gR gS r1
  have PZ := Lib.hid pp20
  have XX := Lib.hid x20
  have YY := Lib.hid y20
  clear pp20 fx20 fy20
  go_wp2_with fail
  go_loopw [17, 18] (fun v i wr => ∃ (k : Nat) (t : Bool), k ≤ 128 ∧ v = .bool t ∧ i = .int .i64 k ∧ Hid (t = commonD f1 T1 f2 T2 k) ∧ w20 = wr) (fun _ i _ => 128 - (intOf i).toNat)
  case atStart => exact ⟨0, false, by omega, rfl, rfl, Lib.hid rfl, by trivial⟩
  case round =>
    obtain ⟨k, t, hk, rfl, rfl, HT, hw⟩ := hrel
    subst hw
    by_cases l : k < 128
    · have d1 : decide ((k : Int) < 128) = true := by simp; omega
      have NX := Lib.hid (common_succ f1 T1 f2 T2 k)
      rw [← HT.out] at NX
      cases t with
      | true =>
        go_wp2_with fail
        go_roundw
        case rel => exact ⟨k + 1, true, by omega, rfl, by go_num, Lib.hid (by rw [NX.out]; rfl), by trivial⟩
        case measure => simp [intOf]; omega
      | false =>
        cases c1 : decide (f1 ≤ (k : Int))
        · rw [c1] at NX
          go_wp2_with fail
          go_roundw
          case rel => exact ⟨k + 1, false, by omega, rfl, by go_num, Lib.hid (by rw [NX.out]; rfl), by trivial⟩
          case measure => simp [intOf]; omega
        cases c2 : decide ((k : Int) < T1)
        · rw [c1, c2] at NX
          go_wp2_with fail
          go_roundw
          case rel => exact ⟨k + 1, false, by omega, rfl, by go_num, Lib.hid (by rw [NX.out]; rfl), by trivial⟩
          case measure => simp [intOf]; omega
        cases c3 : decide (f2 ≤ (k : Int))
        · rw [c1, c2, c3] at NX
          go_wp2_with fail
          go_roundw
          case rel => exact ⟨k + 1, false, by omega, rfl, by go_num, Lib.hid (by rw [NX.out]; rfl), by trivial⟩
          case measure => simp [intOf]; omega
        cases c4 : decide ((k : Int) < T2)
        · rw [c1, c2, c3, c4] at NX
          go_wp2_with fail
          go_roundw
          case rel => exact ⟨k + 1, false, by omega, rfl, by go_num, Lib.hid (by rw [NX.out]; rfl), by trivial⟩
          case measure => simp [intOf]; omega
        · rw [c1, c2, c3, c4] at NX
          go_wp2_with fail
          go_roundw
          case rel => exact ⟨k + 1, true, by omega, rfl, by go_num, Lib.hid (by rw [NX.out]; rfl), by trivial⟩
          case measure => simp [intOf]; omega
    · have e : k = 128 := by omega
      subst e
      have HN := Lib.hid (HT.out.trans (common_all x3 y3 (by omega) (by omega)).symm)
      have U := Lib.hid (show u = ((m1 == m2) && t && (false || true)) by rw [HU'.out, HN.out]; rfl)
      have HE := Lib.hid (show 0 = spanE ⟨m1, f1, T1, false⟩ by
        unfold spanE
        dsimp only
        rw [if_neg (fun h => h (by omega)), if_neg (by intro h; split at h <;> omega)])
      have MY := Lib.hid (fun w => (show Calls Try.prog 9 #[.agg #[.int .i64 m1, .int .i64 f1, .int .i64 T1, .bool false]] w fun e w' => e = .returned (.int .i64 0) ∧ Grown w w' from smay_any ⟨m1, f1, T1, false⟩ 0 w HE))
      clear HU' HN HT
      cases g : decide (f1 < T1)
      all_goals
        cases e0 : (m1 == m2)
        all_goals
          cases t
          all_goals
            have zz := HZ'.out
            have vv := U.out
            rw [g] at zz
            rw [e0] at vv
            simp only [Bool.true_and, Bool.false_and, Bool.and_false, Bool.and_true, Bool.or_true, Bool.true_or, Bool.or_false, Bool.false_or] at zz vv
            subst zz vv
            clear HZ' U
            go_wp2_with (go_at_call 9; (with_reducible refine (MY.out _).mono ?_); rintro e wz ⟨rfl, gz⟩)
            go_ret
            exact ⟨rfl, P1.out.trans (PZ.out.trans (Grown.past gz))⟩

end Go.Proofs.Ytgbedoffgahhaaa
