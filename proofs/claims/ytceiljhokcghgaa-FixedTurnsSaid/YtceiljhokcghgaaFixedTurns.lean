/- Whatever three numbers: FixedTurns returns true, and changes nothing that it was handed.
   Conditions: none beyond the row's own cells. -/
import Derived.Test.YtceiljhokcghgaaFns
import Derived.Lib.Hide
import Derived.Handy
import Derived.Outline
import Derived.WalkKit
import Derived.ProofKit
import Derived.OpenShut
namespace Go.Proofs.Ytceiljhokcghgaa.fixedTurns
open Go.ChangeShapes Go.WideShapes Go.ChangeAt Go.RowKit
set_option linter.unusedVariables false      -- a walk need not use every 'w<i>' (that an integer argument fits its kind)

theorem own : ownKnob Try.prog.godebug = none := by kernel_rfl

theorem walk (a0 : Int) (a1 : Int) (a2 : Int) (w0 : (Lit.int .i64 a0).wf = true) (w1 : (Lit.int .i64 a1).wf = true) (w2 : (Lit.int .i64 a2).wf = true) (w : World) :
    Calls Try.prog 8 #[.int .i64 a0, .int .i64 a1, .int .i64 a2] w fun e w' => e = .returned (.bool true) ∧ Grown w w' := by
  obtain ⟨y1, y2⟩ := tmod_bd a0 2147483648 (by omega)
  obtain ⟨b1, b2⟩ := mask_bd a1 16383 (by omega) (by omega)
  obtain ⟨s, hs⟩ : ∃ s, Hid (s = held 0 31 a2) := ⟨_, Lib.hid rfl⟩
  have s0 : 0 ≤ s ∧ s ≤ 31 := by rw [hs.out]; unfold held; omega
  obtain ⟨s1, s2⟩ := s0
  have p1 := (pow_bd s s2).1
  have m0 : -35184372088832 ≤ a0.tmod 2147483648 * (1 + bits .and .i64 a1 16383) ∧ a0.tmod 2147483648 * (1 + bits .and .i64 a1 16383) ≤ 35184372088832 := by
    have e1 : a0.tmod 2147483648 * (1 + bits .and .i64 a1 16383) ≤ 2147483648 * (1 + bits .and .i64 a1 16383) := Int.mul_le_mul_of_nonneg_right (by omega) (by omega)
    have e2 : -2147483648 * (1 + bits .and .i64 a1 16383) ≤ a0.tmod 2147483648 * (1 + bits .and .i64 a1 16383) := Int.mul_le_mul_of_nonneg_right (by omega) (by omega)
    omega
  obtain ⟨m1, m2⟩ := m0
  have n0 := Int.neg_mul (a0.tmod 2147483648) (1 + bits .and .i64 a1 16383)
  have n1 : -35184372088832 ≤ -a0.tmod 2147483648 * (1 + bits .and .i64 a1 16383) := by omega
  have n2 : -a0.tmod 2147483648 * (1 + bits .and .i64 a1 16383) ≤ 35184372088832 := by omega
  obtain ⟨q, hq⟩ : ∃ q, Hid (q = rd (a0.tmod 2147483648 * (1 + bits .and .i64 a1 16383)) (2 ^ s.toNat)) := ⟨_, Lib.hid rfl⟩
  have q0 := rd_bd (a0.tmod 2147483648 * (1 + bits .and .i64 a1 16383)) (2 ^ s.toNat) p1
  rw [← hq.out] at q0
  have q1 : -35184372088834 ≤ q ∧ q ≤ 35184372088834 := by omega
  obtain ⟨q2, q3⟩ := q1
  clear q0
  have d2 : Hid (-q = rd (-a0.tmod 2147483648 * (1 + bits .and .i64 a1 16383)) (2 ^ s.toNat)) := by show _ = _; rw [n0, rd_neg _ _ p1, ← hq.out]
  clear n0 p1
  obtain ⟨r, hr⟩ : ∃ r, Hid (r = held (-128) 127 q) := ⟨_, Lib.hid rfl⟩
  obtain ⟨t, ht⟩ : ∃ t, Hid (t = held (-128) 127 (-q)) := ⟨_, Lib.hid rfl⟩
  have hr0 : Hid (r = held (-128) 127 (0 + q)) := by show _ = _; rw [Int.zero_add]; exact hr.out
  have ht0 : Hid (t = held (-128) 127 (0 + -q)) := by show _ = _; rw [Int.zero_add]; exact ht.out
  have e1 : Hid (a0.tmod 2147483648 = held (-2147483648) 2147483647 (a0.tmod 2147483648)) := Lib.hid (by unfold held; omega)
  have e2 : Hid (-a0.tmod 2147483648 = held (-2147483648) 2147483647 (-a0.tmod 2147483648)) := Lib.hid (by unfold held; omega)
  have e3 : Hid (1 + bits .and .i64 a1 16383 = held 1 32767 (1 + bits .and .i64 a1 16383)) := Lib.hid (by unfold held; omega)
  have e4 : Hid (0 = held (-128) 127 0) := Lib.hid (by decide)
  go_enter Try.func8, Try.ntmps8
  go_wp2_with fail
  refine (shown_any _).mono ?_; rintro e w1 ⟨rfl, g1⟩
  go_wp2_with fail
  refine (shift_any _ _ s q _ (by omega) (by omega) hs s1 s2 hq).mono ?_; rintro e w2 ⟨rfl, g2⟩
  go_wp2_with fail
  refine (shift_any _ _ s (-q) _ (by omega) (by omega) hs s1 s2 d2).mono ?_; rintro e w3 ⟨rfl, g3⟩
  go_wp2_with fail
  refine (scale_any _ _ _ _ _ _ s 0 _ q r _ e1 e3 hs e4 (Lib.hid rfl) hq hr0).mono ?_; rintro e w4 ⟨rfl, g4⟩
  go_wp2_with fail
  refine (clamp_at _ r _ hr).mono ?_; rintro e w5 ⟨rfl, g5⟩
  go_wp2_with fail
  refine (scale_any _ _ _ _ _ _ s 0 _ (-q) t _ e2 e3 hs e4 (Lib.hid rfl) d2 ht0).mono ?_; rintro e w6 ⟨rfl, g6⟩
  go_wp2_with fail
  refine (clamp_at _ t _ ht).mono ?_; rintro e w7 ⟨rfl, g7⟩
  go_wp2_with fail
  go_ret
  exact ⟨rfl, grown_trans g1 (grown_trans g2 (grown_trans g3 (grown_trans g4 (grown_trans g5 (grown_trans g6 g7)))))⟩

/-! ### THE ROW's STEP: WRITTEN OUT: LEAVE IT -/
set_option maxRecDepth 100000 in
theorem lifted (os : Os) (started : os.Started) (H : Type) (enc : TypeId × Value → H) :
    ReturnsInHanded {} Try.checked os 8 .any (Rows.fixedTurnsSpec.pre6 enc Try.prog Try.f8 Rows.fixedTurnsRow.domain false) (Rows.fixedTurnsSpec.post enc Try.prog Try.f8 false true false false) := by
  refine returnsInHanded_of_change (C := Try.checked) own started (by kernel_rfl) Try.func8
    (ChangeSpec.witness6 (enc := enc) (C := Try.checked) false ⟨#[], #[.int .i64 0, .int .i64 0, .int .i64 0], []⟩ 8 (by kernel_rfl) (by kernel_rfl) (by kernel_rfl) (by kernel_rfl)) ?_
  intro W base args ds gs before hval0 hW hcnd _
  have hval : ∀ (j : Nat) t v, Try.f8.params[j]? = some t → args[j]? = some v → Value.okWide Try.prog W .any base t v := hval0
  have hW' := hW
  obtain ⟨p, q, hA0, hV, rfl, hfz, hnd⟩ := hW
  have hA : DataW.TrodAll enc Try.prog W 0 (fun _ => true) true Try.f8.params.toList args.toList ds p := hA0
  rw [Try.params8] at hA hval
  obtain ⟨v0, vs0, d0, ds0, p0, q0, hargs, rfl, rfl, h0, r0⟩ := trodAll_cons hA
  obtain ⟨v1, vs1, d1, ds1, p1, q1, rfl, rfl, rfl, h1, r1⟩ := trodAll_cons r0
  obtain ⟨v2, vs2, d2, ds2, p2, q2, rfl, rfl, rfl, h2, r2⟩ := trodAll_cons r1
  obtain ⟨rfl, rfl, rfl⟩ := trodAll_nil r2
  obtain rfl : args = #[v0, v1, v2] := by cases args; simp_all
  obtain ⟨rfl, rfl⟩ := trodVars_none hV
  obtain ⟨a0, rfl, rfl, rfl, w0⟩ := open_int Try.underlying3 (hval 0 3 v0 rfl rfl) h0
  obtain ⟨a1, rfl, rfl, rfl, w1⟩ := open_int Try.underlying3 (hval 1 3 v1 rfl rfl) h1
  obtain ⟨a2, rfl, rfl, rfl, w2⟩ := open_int Try.underlying3 (hval 2 3 v2 rfl rfl) h2
  clear hA0 hval0
  simp only [List.append_nil] at hW'
  refine (walk a0 a1 a2 w0 w1 w2 W).mono fun e W' ⟨he, hg⟩ => ?_
  subst he
  exact ⟨_, rfl, post_of_same (pa := []) (pv := []) hW' (fun _ _ _ => (trodAll_cons_mk (shut_bool Try.underlying4 _) trodAll_mk0)) (fun sp _ => (trodAll_cons_mk (shut_int Try.underlying3 w0) (trodAll_cons_mk (shut_int Try.underlying3 w1) (trodAll_cons_mk (shut_int Try.underlying3 w2) trodAll_mk0)))) (fun _ _ => rfl) rfl
    (hg.frame _) hg.2.1 (ok_one (by kernel_rfl) rfl (okWide_bool_mk Try.underlying4 _))⟩

theorem over : Rows.fixedTurnsRow.holds Try.pinned (OpenSpec.ofChange Rows.fixedTurnsSpec) :=
  OpenClaim.holds_of_wide 8 Try.f8 rfl rfl rfl rfl rfl rfl rfl ⟨rfl, rfl, rfl, rfl, rfl⟩ rfl rfl rfl rfl rfl (by kernel_rfl) Try.func8 (by kernel_rfl)
    (of_decide_eq_true (by kernel_rfl)) (by unfold Func.isWrapper; first | (rw [if_pos (by decide +kernel)]; kernel_rfl) | (rw [if_neg (by decide +kernel)]; exact ⟨rfl, rfl⟩))
    (fun os started H enc _ => lifted os started H enc)

/-- ████ THE STATEMENT ████ -/
theorem proved : Rows.FixedTurnsSaid :=
  over
#print axioms proved
end Go.Proofs.Ytceiljhokcghgaa.fixedTurns
