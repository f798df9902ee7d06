/- Whatever two numbers: FixedRounds returns true, and changes nothing that it was handed.
   Conditions: none beyond the row's own cells. -/
import Derived.Test.YtceiljhokcghgaaFns
import Derived.Lib.Hide
import Derived.Handy
import Derived.Outline
import Derived.WalkKit
import Derived.ProofKit
import Derived.OpenShut
namespace Go.Proofs.Ytceiljhokcghgaa.fixedRounds
open Go.ChangeShapes Go.WideShapes Go.ChangeAt Go.RowKit
set_option linter.unusedVariables false      -- a walk need not use every 'w<i>' (that an integer argument fits its kind)

theorem own : ownKnob Try.prog.godebug = none := by kernel_rfl

theorem walk (a0 : Int) (a1 : Int) (w0 : (Lit.int .i64 a0).wf = true) (w1 : (Lit.int .i64 a1).wf = true) (w : World) :
    Calls Try.prog 3 #[.int .i64 a0, .int .i64 a1] w fun e w' => e = .returned (.bool true) ∧ Grown w w' := by
  obtain ⟨h1, h2⟩ := wf_bd w0
  obtain ⟨h3, h4⟩ := wf_bd w1
  obtain ⟨y1, y2⟩ := tmod_bd a0 1099511627776 (by omega)
  obtain ⟨b1, b2⟩ := mask_bd a1 1048575 (by omega) (by omega)
  have b3 : (1 : Int) ≤ 1 + bits .and .i64 a1 1048575 := by omega
  obtain ⟨q, hq⟩ : ∃ q, Hid (q = rd (a0.tmod 1099511627776) (1 + bits .and .i64 a1 1048575)) := ⟨_, Lib.hid rfl⟩
  have n0 := rd_near (a0.tmod 1099511627776) (1 + bits .and .i64 a1 1048575) b3
  rw [← hq.out] at n0
  obtain ⟨n1, n2⟩ := n0
  have q0 := rd_bd (a0.tmod 1099511627776) (1 + bits .and .i64 a1 1048575) b3
  rw [← hq.out] at q0
  have q1 : -1099511627778 ≤ q ∧ q ≤ 1099511627778 := by omega
  obtain ⟨q2, q3⟩ := q1
  clear q0
  have m0 : -1152921504606846976 ≤ a0.tmod 1099511627776 * (1 + bits .and .i64 a1 1048575) ∧ a0.tmod 1099511627776 * (1 + bits .and .i64 a1 1048575) ≤ 1152921504606846976 := by
    have e1 : a0.tmod 1099511627776 * (1 + bits .and .i64 a1 1048575) ≤ 1099511627776 * (1 + bits .and .i64 a1 1048575) := Int.mul_le_mul_of_nonneg_right (by omega) (by omega)
    have e2 : -1099511627776 * (1 + bits .and .i64 a1 1048575) ≤ a0.tmod 1099511627776 * (1 + bits .and .i64 a1 1048575) := Int.mul_le_mul_of_nonneg_right (by omega) (by omega)
    omega
  obtain ⟨m1, m2⟩ := m0
  have d2 : Hid (-q = rd (-a0.tmod 1099511627776) (1 + bits .and .i64 a1 1048575)) := by show _ = _; rw [rd_neg _ _ b3, ← hq.out]
  have d3 : Hid (a0.tmod 1099511627776 = rd (a0.tmod 1099511627776 * (1 + bits .and .i64 a1 1048575)) (1 + bits .and .i64 a1 1048575)) := by show _ = _; rw [rd_mul _ _ b3]
  have d4 : Hid (a0.tmod 1099511627776 = rd (a0.tmod 1099511627776) 1) := by show _ = _; rw [rd_one]
  go_enter Try.func3, Try.ntmps3
  go_wp2_with fail
  refine (shown_any _).mono ?_; rintro e w1 ⟨rfl, g1⟩
  go_wp2_with fail
  refine (div_at _ _ q _ hq (by omega) (by omega) b3 (by omega)).mono ?_; rintro e w2 ⟨rfl, g2⟩
  go_wp2_with fail
  refine (div_at _ _ (-q) _ d2 (by omega) (by omega) b3 (by omega)).mono ?_; rintro e w3 ⟨rfl, g3⟩
  go_wp2_with fail
  refine (div_at _ _ (a0.tmod 1099511627776) _ d3 (by omega) (by omega) b3 (by omega)).mono ?_; rintro e w4 ⟨rfl, g4⟩
  go_wp2_with fail
  refine (div_at _ _ (a0.tmod 1099511627776) _ d4 (by omega) (by omega) (by omega) (by omega)).mono ?_; rintro e w5 ⟨rfl, g5⟩
  go_wp2_with fail
  go_ret
  exact ⟨rfl, grown_trans g1 (grown_trans g2 (grown_trans g3 (grown_trans g4 g5)))⟩

/-! ### THE ROW's STEP: WRITTEN OUT: LEAVE IT -/
set_option maxRecDepth 100000 in
theorem lifted (os : Os) (started : os.Started) (H : Type) (enc : TypeId × Value → H) :
    ReturnsInHanded {} Try.checked os 3 .any (Rows.fixedRoundsSpec.pre6 enc Try.prog Try.f3 Rows.fixedRoundsRow.domain false) (Rows.fixedRoundsSpec.post enc Try.prog Try.f3 false true false false) := by
  refine returnsInHanded_of_change (C := Try.checked) own started (by kernel_rfl) Try.func3
    (ChangeSpec.witness6 (enc := enc) (C := Try.checked) false ⟨#[], #[.int .i64 0, .int .i64 0], []⟩ 8 (by kernel_rfl) (by kernel_rfl) (by kernel_rfl) (by kernel_rfl)) ?_
  intro W base args ds gs before hval0 hW hcnd _
  have hval : ∀ (j : Nat) t v, Try.f3.params[j]? = some t → args[j]? = some v → Value.okWide Try.prog W .any base t v := hval0
  have hW' := hW
  obtain ⟨p, q, hA0, hV, rfl, hfz, hnd⟩ := hW
  have hA : DataW.TrodAll enc Try.prog W 0 (fun _ => true) true Try.f3.params.toList args.toList ds p := hA0
  rw [Try.params3] at hA hval
  obtain ⟨v0, vs0, d0, ds0, p0, q0, hargs, rfl, rfl, h0, r0⟩ := trodAll_cons hA
  obtain ⟨v1, vs1, d1, ds1, p1, q1, rfl, rfl, rfl, h1, r1⟩ := trodAll_cons r0
  obtain ⟨rfl, rfl, rfl⟩ := trodAll_nil r1
  obtain rfl : args = #[v0, v1] := by cases args; simp_all
  obtain ⟨rfl, rfl⟩ := trodVars_none hV
  obtain ⟨a0, rfl, rfl, rfl, w0⟩ := open_int Try.underlying3 (hval 0 3 v0 rfl rfl) h0
  obtain ⟨a1, rfl, rfl, rfl, w1⟩ := open_int Try.underlying3 (hval 1 3 v1 rfl rfl) h1
  clear hA0 hval0
  simp only [List.append_nil] at hW'
  refine (walk a0 a1 w0 w1 W).mono fun e W' ⟨he, hg⟩ => ?_
  subst he
  exact ⟨_, rfl, post_of_same (pa := []) (pv := []) hW' (fun _ _ _ => (trodAll_cons_mk (shut_bool Try.underlying4 _) trodAll_mk0)) (fun sp _ => (trodAll_cons_mk (shut_int Try.underlying3 w0) (trodAll_cons_mk (shut_int Try.underlying3 w1) trodAll_mk0))) (fun _ _ => rfl) rfl
    (hg.frame _) hg.2.1 (ok_one (by kernel_rfl) rfl (okWide_bool_mk Try.underlying4 _))⟩

theorem over : Rows.fixedRoundsRow.holds Try.pinned (OpenSpec.ofChange Rows.fixedRoundsSpec) :=
  OpenClaim.holds_of_wide 3 Try.f3 rfl rfl rfl rfl rfl rfl rfl ⟨rfl, rfl, rfl, rfl, rfl⟩ rfl rfl rfl rfl rfl (by kernel_rfl) Try.func3 (by kernel_rfl)
    (of_decide_eq_true (by kernel_rfl)) (by unfold Func.isWrapper; first | (rw [if_pos (by decide +kernel)]; kernel_rfl) | (rw [if_neg (by decide +kernel)]; exact ⟨rfl, rfl⟩))
    (fun os started H enc _ => lifted os started H enc)

/-- ████ THE STATEMENT ████ -/
theorem proved : Rows.FixedRoundsSaid :=
  over
#print axioms proved
end Go.Proofs.Ytceiljhokcghgaa.fixedRounds
