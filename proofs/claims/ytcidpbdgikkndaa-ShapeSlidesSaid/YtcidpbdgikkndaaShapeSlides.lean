/- Whatever three bytes: ShapeSlides returns true, and changes nothing that it was handed.
   Conditions: none beyond the row's own cells. -/
import Derived.Test.YtcidpbdgikkndaaRows
import Derived.Test.YtcidpbdgikkndaaLawMath
import Derived.WalkKit
import Derived.ProofKit
import Derived.OpenShut
namespace Go.Proofs.Ytcidpbdgikkndaa.shapeSlides
open Go.ChangeShapes Go.WideShapes Go.ChangeAt Go.RowKit
set_option linter.unusedVariables false      -- a walk need not use every 'w<i>' (that an integer argument fits its kind)

theorem own : ownKnob Try.prog.godebug = none := by kernel_rfl

set_option maxHeartbeats 1000000 in
theorem walk1 (a0 : Int) (a1 : Int) (a2 : Int) (w0 : (Lit.int .u8 a0).wf = true) (w1 : (Lit.int .u8 a1).wf = true) (w2 : (Lit.int .u8 a2).wf = true) (w : World) (hn : 1 + a1 % 3 ≤ 1 + a0 % 16) :
    Calls Try.prog 7 #[.int .u8 a0, .int .u8 a1, .int .u8 a2] w fun e w' => e = .returned (.bool true) ∧ Grown w w' := by
  obtain ⟨x1, x2⟩ := wf_u8 w0
  obtain ⟨y1, y2⟩ := wf_u8 w1
  obtain ⟨z1, z2⟩ := wf_u8 w2
  obtain ⟨m3, m4⟩ := mask_u8 a2 1 (by omega) (by omega)
  have A1 : Hid (1 + a0 % 16 - (1 + a1 % 3) + 1 = outI (1 + a0 % 16) (1 + a1 % 3) 1 0) := Lib.hid (by rw [out_one (by omega) (by omega) (by omega) (by omega) (by omega) (by omega)]; omega)
  have A2 : Hid (1 + a0 % 16 - (1 + a1 % 3) + 2 = outI (1 + a0 % 16 + 1) (1 + a1 % 3) 1 0) := Lib.hid (by rw [out_one (by omega) (by omega) (by omega) (by omega) (by omega) (by omega)]; omega)
  have A3 : Hid (1 + a0 % 16 = outI (1 + a0 % 16) (2 * (1 + a1 % 3) - 1) 1 (1 + a1 % 3 - 1)) := Lib.hid (by rw [out_one (by omega) (by omega) (by omega) (by omega) (by omega) (by omega)]; omega)
  obtain ⟨q, A4⟩ : ∃ q, Hid (q = outI (1 + a0 % 16) (1 + a1 % 3) (1 + bits BinOp.and IntKind.u8 a2 1) 0) := ⟨_, Lib.hid rfl⟩
  have A5 : Hid (1 + a0 % 16 = outI (1 + a0 % 16) 1 1 0) := Lib.hid (by rw [out_one (by omega) (by omega) (by omega) (by omega) (by omega) (by omega)]; omega)
  obtain ⟨f1, f2, f3, f4, f5, f6, f7⟩ := out_fit A4 (by omega) (by omega) (by omega) (by omega) (by omega) (by omega) (by omega) (by omega) (by omega)
  have d5 : decide (1 + a0 % 16 < q * (1 + bits BinOp.and IntKind.u8 a2 1) + (1 + a1 % 3)) = true := by simp; omega
  go_enter Try.func7, Try.ntmps7
  go_wp2_with fail
  refine (shown_any _).mono ?_; rintro e w1 ⟨rfl, g1⟩
  go_wp2_with fail
  refine (out_any _ _ _ _ _ _ A1).mono ?_; rintro e w2 ⟨rfl, g2⟩
  go_wp2_with fail
  refine (out_any _ _ _ _ _ _ A2).mono ?_; rintro e w3 ⟨rfl, g3⟩
  go_wp2_with fail
  refine (out_any _ _ _ _ _ _ A3).mono ?_; rintro e w4 ⟨rfl, g4⟩
  go_wp2_with fail
  refine (out_any _ _ _ _ _ _ A4).mono ?_; rintro e w5 ⟨rfl, g5⟩
  go_wp2_with fail
  refine (out_any _ _ _ _ _ _ A5).mono ?_; rintro e w6 ⟨rfl, g6⟩
  go_wp2_with fail
  go_ret
  exact ⟨rfl, grown_trans g1 (grown_trans g2 (grown_trans g3 (grown_trans g4 (grown_trans g5 g6))))⟩

set_option maxHeartbeats 1000000 in
theorem walk2 (a0 : Int) (a1 : Int) (a2 : Int) (w0 : (Lit.int .u8 a0).wf = true) (w1 : (Lit.int .u8 a1).wf = true) (w2 : (Lit.int .u8 a2).wf = true) (w : World) (hn : 1 + a0 % 16 < 1 + a1 % 3) :
    Calls Try.prog 7 #[.int .u8 a0, .int .u8 a1, .int .u8 a2] w fun e w' => e = .returned (.bool true) ∧ Grown w w' := by
  obtain ⟨x1, x2⟩ := wf_u8 w0
  obtain ⟨y1, y2⟩ := wf_u8 w1
  obtain ⟨z1, z2⟩ := wf_u8 w2
  obtain ⟨m3, m4⟩ := mask_u8 a2 1 (by omega) (by omega)
  have A1 : Hid (0 = outI (1 + a0 % 16) (1 + a1 % 3) 1 0) := Lib.hid (by rw [out_one (by omega) (by omega) (by omega) (by omega) (by omega) (by omega)]; omega)
  have A2 : Hid (1 + a0 % 16 - (1 + a1 % 3) + 2 = outI (1 + a0 % 16 + 1) (1 + a1 % 3) 1 0) := Lib.hid (by rw [out_one (by omega) (by omega) (by omega) (by omega) (by omega) (by omega)]; omega)
  have A3 : Hid (1 + a0 % 16 = outI (1 + a0 % 16) (2 * (1 + a1 % 3) - 1) 1 (1 + a1 % 3 - 1)) := Lib.hid (by rw [out_one (by omega) (by omega) (by omega) (by omega) (by omega) (by omega)]; omega)
  have A4 : Hid (0 = outI (1 + a0 % 16) (1 + a1 % 3) (1 + bits BinOp.and IntKind.u8 a2 1) 0) := Lib.hid (outI_no (fun h => by have := h.2.2.2.2.2.2.2.2; omega)).symm
  have A5 : Hid (1 + a0 % 16 = outI (1 + a0 % 16) 1 1 0) := Lib.hid (by rw [out_one (by omega) (by omega) (by omega) (by omega) (by omega) (by omega)]; omega)
  go_enter Try.func7, Try.ntmps7
  go_wp2_with fail
  refine (shown_any _).mono ?_; rintro e w1 ⟨rfl, g1⟩
  go_wp2_with fail
  refine (out_any _ _ _ _ _ _ A1).mono ?_; rintro e w2 ⟨rfl, g2⟩
  go_wp2_with fail
  refine (out_any _ _ _ _ _ _ A2).mono ?_; rintro e w3 ⟨rfl, g3⟩
  go_wp2_with fail
  refine (out_any _ _ _ _ _ _ A3).mono ?_; rintro e w4 ⟨rfl, g4⟩
  go_wp2_with fail
  refine (out_any _ _ _ _ _ _ A4).mono ?_; rintro e w5 ⟨rfl, g5⟩
  go_wp2_with fail
  refine (out_any _ _ _ _ _ _ A5).mono ?_; rintro e w6 ⟨rfl, g6⟩
  go_wp2_with fail
  all_goals
    go_ret
    exact ⟨rfl, grown_trans g1 (grown_trans g2 (grown_trans g3 (grown_trans g4 (grown_trans g5 g6))))⟩

theorem walk (a0 : Int) (a1 : Int) (a2 : Int) (w0 : (Lit.int .u8 a0).wf = true) (w1 : (Lit.int .u8 a1).wf = true) (w2 : (Lit.int .u8 a2).wf = true) (w : World) :
    Calls Try.prog 7 #[.int .u8 a0, .int .u8 a1, .int .u8 a2] w fun e w' => e = .returned (.bool true) ∧ Grown w w' := by
  by_cases hn : 1 + a1 % 3 ≤ 1 + a0 % 16
  · exact walk1 a0 a1 a2 w0 w1 w2 w hn
  · exact walk2 a0 a1 a2 w0 w1 w2 w (by omega)

/-! ### THE ROW's STEP: WRITTEN OUT: LEAVE IT -/
set_option maxRecDepth 100000 in
theorem lifted (os : Os) (started : os.Started) (H : Type) (enc : TypeId × Value → H) :
    ReturnsInHanded {} Try.checked os 7 .any (Rows.shapeSlidesSpec.pre6 enc Try.prog Try.f7 Rows.shapeSlidesRow.domain false) (Rows.shapeSlidesSpec.post enc Try.prog Try.f7 false true false false) := by
  refine returnsInHanded_of_change (C := Try.checked) own started (by kernel_rfl) Try.func7
    (ChangeSpec.witness6 (enc := enc) (C := Try.checked) false ⟨#[], #[.int .u8 0, .int .u8 0, .int .u8 0], []⟩ 8 (by kernel_rfl) (by kernel_rfl) (by kernel_rfl) (by kernel_rfl)) ?_
  intro W base args ds gs before hval0 hW hcnd _
  have hval : ∀ (j : Nat) t v, Try.f7.params[j]? = some t → args[j]? = some v → Value.okWide Try.prog W .any base t v := hval0
  have hW' := hW
  obtain ⟨p, q, hA0, hV, rfl, hfz, hnd⟩ := hW
  have hA : DataW.TrodAll enc Try.prog W 0 (fun _ => true) true Try.f7.params.toList args.toList ds p := hA0
  rw [Try.params7] at hA hval
  obtain ⟨v0, vs0, d0, ds0, p0, q0, hargs, rfl, rfl, h0, r0⟩ := trodAll_cons hA
  obtain ⟨v1, vs1, d1, ds1, p1, q1, rfl, rfl, rfl, h1, r1⟩ := trodAll_cons r0
  obtain ⟨v2, vs2, d2, ds2, p2, q2, rfl, rfl, rfl, h2, r2⟩ := trodAll_cons r1
  obtain ⟨rfl, rfl, rfl⟩ := trodAll_nil r2
  obtain rfl : args = #[v0, v1, v2] := by cases args; simp_all
  obtain ⟨rfl, rfl⟩ := trodVars_none hV
  obtain ⟨a0, rfl, rfl, rfl, w0⟩ := open_int Try.underlying5 (hval 0 5 v0 rfl rfl) h0
  obtain ⟨a1, rfl, rfl, rfl, w1⟩ := open_int Try.underlying5 (hval 1 5 v1 rfl rfl) h1
  obtain ⟨a2, rfl, rfl, rfl, w2⟩ := open_int Try.underlying5 (hval 2 5 v2 rfl rfl) h2
  clear hA0 hval0
  simp only [List.append_nil] at hW'
  refine (walk a0 a1 a2 w0 w1 w2 W).mono fun e W' ⟨he, hg⟩ => ?_
  subst he
  exact ⟨_, rfl, post_of_same (pa := []) (pv := []) hW' (fun _ _ _ => (trodAll_cons_mk (shut_bool Try.underlying4 _) trodAll_mk0)) (fun sp _ => (trodAll_cons_mk (shut_int Try.underlying5 w0) (trodAll_cons_mk (shut_int Try.underlying5 w1) (trodAll_cons_mk (shut_int Try.underlying5 w2) trodAll_mk0)))) (fun _ _ => rfl) rfl
    (hg.frame _) hg.2.1 (ok_one (by kernel_rfl) rfl (okWide_bool_mk Try.underlying4 _))⟩

theorem over : Rows.shapeSlidesRow.holds Try.pinned (OpenSpec.ofChange Rows.shapeSlidesSpec) :=
  OpenClaim.holds_of_wide 7 Try.f7 rfl rfl rfl rfl rfl rfl rfl ⟨rfl, rfl, rfl, rfl, rfl⟩ rfl rfl rfl rfl rfl (by kernel_rfl) Try.func7 (by kernel_rfl)
    (of_decide_eq_true (by kernel_rfl)) (by unfold Func.isWrapper; first | (rw [if_pos (by decide +kernel)]; kernel_rfl) | (rw [if_neg (by decide +kernel)]; exact ⟨rfl, rfl⟩))
    (fun os started H enc _ => lifted os started H enc)

/-- THE STATEMENT -/
theorem proved : Rows.ShapeSlidesSaid :=
  over
#print axioms proved
end Go.Proofs.Ytcidpbdgikkndaa.shapeSlides
