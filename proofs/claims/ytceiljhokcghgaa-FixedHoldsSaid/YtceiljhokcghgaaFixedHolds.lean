/- Whatever number: FixedHolds returns true, and changes nothing that it was handed.
   Conditions: none beyond the row's own cells. -/
import Derived.Test.YtceiljhokcghgaaFns
import Derived.Lib.Hide
import Derived.Handy
import Derived.Outline
import Derived.WalkKit
import Derived.ProofKit
import Derived.OpenShut
namespace Go.Proofs.Ytceiljhokcghgaa.fixedHolds
open Go.ChangeShapes Go.WideShapes Go.ChangeAt Go.RowKit
set_option linter.unusedVariables false      -- a walk need not use every 'w<i>' (that an integer argument fits its kind)

theorem own : ownKnob Try.prog.godebug = none := by kernel_rfl

theorem walk (a0 : Int) (w0 : (Lit.int .i64 a0).wf = true) (w : World) :
    Calls Try.prog 5 #[.int .i64 a0] w fun e w' => e = .returned (.bool true) ∧ Grown w w' := by
  obtain ⟨h1, h2⟩ := wf_bd w0
  have fin : ∀ c s : Int, Hid (c = held (-128) 127 a0) → Hid (s = held (-2147483648) 2147483647 a0) → Hid (c = held (-128) 127 c) → Hid (s = held (-2147483648) 2147483647 s) → Hid (c = held (-128) 127 s) →
      ((-128 ≤ a0 ∧ a0 ≤ 127 ∧ c = a0 ∧ s = a0) ∨ (127 < a0 ∧ a0 < 2147483648 ∧ c = 127 ∧ s = a0) ∨ (2147483648 ≤ a0 ∧ c = 127 ∧ s = 2147483647) ∨ (-2147483648 ≤ a0 ∧ a0 < -128 ∧ c = -128 ∧ s = a0) ∨ (a0 < -2147483648 ∧ c = -128 ∧ s = -2147483648)) →
      Calls Try.prog 5 #[.int .i64 a0] w fun e w' => e = .returned (.bool true) ∧ Grown w w' := by
    intro c s e1 e2 e3 e4 e5 h
    rcases h with ⟨b1, b2, rfl, rfl⟩ | ⟨b1, b2, rfl, rfl⟩ | ⟨b1, rfl, rfl⟩ | ⟨b1, b2, rfl, rfl⟩ | ⟨b1, rfl, rfl⟩
    all_goals
      go_enter Try.func5, Try.ntmps5
      go_wp2_with fail
      refine (shown_any _).mono ?_; rintro e w1 ⟨rfl, g1⟩
      go_wp2_with fail
      refine (clamp_at _ _ _ e1).mono ?_; rintro e w2 ⟨rfl, g2⟩
      go_wp2_with fail
      refine (sat_at _ _ _ e2).mono ?_; rintro e w3 ⟨rfl, g3⟩
      go_wp2_with fail
      refine (clamp_at _ _ _ e3).mono ?_; rintro e w4 ⟨rfl, g4⟩
      go_wp2_with fail
      refine (sat_at _ _ _ e4).mono ?_; rintro e w5 ⟨rfl, g5⟩
      go_wp2_with fail
      refine (clamp_at _ _ _ e5).mono ?_; rintro e w6 ⟨rfl, g6⟩
      go_wp2_with fail
      go_ret
      exact ⟨rfl, grown_trans g1 (grown_trans g2 (grown_trans g3 (grown_trans g4 (grown_trans g5 g6))))⟩
  exact fin (held (-128) 127 a0) (held (-2147483648) 2147483647 a0) (Lib.hid rfl) (Lib.hid rfl) (Lib.hid (by unfold held; omega)) (Lib.hid (by unfold held; omega)) (Lib.hid (by unfold held; omega)) (by unfold held; omega)

/-! ### THE ROW's STEP: WRITTEN OUT: LEAVE IT -/
set_option maxRecDepth 100000 in
theorem lifted (os : Os) (started : os.Started) (H : Type) (enc : TypeId × Value → H) :
    ReturnsInHanded {} Try.checked os 5 .any (Rows.fixedHoldsSpec.pre6 enc Try.prog Try.f5 Rows.fixedHoldsRow.domain false) (Rows.fixedHoldsSpec.post enc Try.prog Try.f5 false true false false) := by
  refine returnsInHanded_of_change (C := Try.checked) own started (by kernel_rfl) Try.func5
    (ChangeSpec.witness6 (enc := enc) (C := Try.checked) false ⟨#[], #[.int .i64 0], []⟩ 8 (by kernel_rfl) (by kernel_rfl) (by kernel_rfl) (by kernel_rfl)) ?_
  intro W base args ds gs before hval0 hW hcnd _
  have hval : ∀ (j : Nat) t v, Try.f5.params[j]? = some t → args[j]? = some v → Value.okWide Try.prog W .any base t v := hval0
  have hW' := hW
  obtain ⟨p, q, hA0, hV, rfl, hfz, hnd⟩ := hW
  have hA : DataW.TrodAll enc Try.prog W 0 (fun _ => true) true Try.f5.params.toList args.toList ds p := hA0
  rw [Try.params5] at hA hval
  obtain ⟨v0, vs0, d0, ds0, p0, q0, hargs, rfl, rfl, h0, r0⟩ := trodAll_cons hA
  obtain ⟨rfl, rfl, rfl⟩ := trodAll_nil r0
  obtain rfl : args = #[v0] := by cases args; simp_all
  obtain ⟨rfl, rfl⟩ := trodVars_none hV
  obtain ⟨a0, rfl, rfl, rfl, w0⟩ := open_int Try.underlying3 (hval 0 3 v0 rfl rfl) h0
  clear hA0 hval0
  simp only [List.append_nil] at hW'
  refine (walk a0 w0 W).mono fun e W' ⟨he, hg⟩ => ?_
  subst he
  exact ⟨_, rfl, post_of_same (pa := []) (pv := []) hW' (fun _ _ _ => (trodAll_cons_mk (shut_bool Try.underlying4 _) trodAll_mk0)) (fun sp _ => (trodAll_cons_mk (shut_int Try.underlying3 w0) trodAll_mk0)) (fun _ _ => rfl) rfl
    (hg.frame _) hg.2.1 (ok_one (by kernel_rfl) rfl (okWide_bool_mk Try.underlying4 _))⟩

theorem over : Rows.fixedHoldsRow.holds Try.pinned (OpenSpec.ofChange Rows.fixedHoldsSpec) :=
  OpenClaim.holds_of_wide 5 Try.f5 rfl rfl rfl rfl rfl rfl rfl ⟨rfl, rfl, rfl, rfl, rfl⟩ rfl rfl rfl rfl rfl (by kernel_rfl) Try.func5 (by kernel_rfl)
    (of_decide_eq_true (by kernel_rfl)) (by unfold Func.isWrapper; first | (rw [if_pos (by decide +kernel)]; kernel_rfl) | (rw [if_neg (by decide +kernel)]; exact ⟨rfl, rfl⟩))
    (fun os started H enc _ => lifted os started H enc)

/-- ████ THE STATEMENT ████ -/
theorem proved : Rows.FixedHoldsSaid :=
  over
#print axioms proved
end Go.Proofs.Ytceiljhokcghgaa.fixedHolds
