/- Whatever three sides and whatever three bytes: ShapeSteps returns true, and changes nothing that it was handed.
   Conditions: none beyond the row's own cells. -/
import Derived.Test.YtcidpbdgikkndaaRows
import Derived.Test.YtcidpbdgikkndaaStepsA
import Derived.Test.YtcidpbdgikkndaaStepsB
import Derived.Test.YtcidpbdgikkndaaStepsC
import Derived.Test.YtcidpbdgikkndaaStepsD
import Derived.Lib.SmallJoins
import Derived.Laws.IdiomArrays
namespace Go.Proofs.Ytcidpbdgikkndaa.shapeSteps
open Go.ChangeShapes Go.WideShapes Go.ChangeAt Go.RowKit
set_option linter.unusedVariables false

theorem walk (H W C y x c : Int) (y0 : (Lit.int .u8 y).wf = true) (x0 : (Lit.int .u8 x).wf = true) (z0 : (Lit.int .u8 c).wf = true) (w : World) :
    Calls Try.prog 8 #[.agg #[.int .i64 H, .int .i64 W, .int .i64 C], .agg #[.int .u8 y, .int .u8 x, .int .u8 c]] w fun e w' => e = .returned (.bool true) ∧ Grown w w' := by
  obtain ⟨y1, y2⟩ := wf_u8 y0
  obtain ⟨x1, x2⟩ := wf_u8 x0
  obtain ⟨z1, z2⟩ := wf_u8 z0
  obtain ⟨m1, m2⟩ := mask_bd H 15 (by omega) (by omega)
  obtain ⟨m3, m4⟩ := mask_bd W 15 (by omega) (by omega)
  obtain ⟨m5, m6⟩ := mask_bd C 7 (by omega) (by omega)
  have u2 := Int.emod_lt_of_pos y (show 0 < (1 + bits BinOp.and IntKind.i64 H 15) by omega)
  have u4 := Int.emod_lt_of_pos x (show 0 < (1 + bits BinOp.and IntKind.i64 W 15) by omega)
  have u6 := Int.emod_lt_of_pos c (show 0 < (1 + bits BinOp.and IntKind.i64 C 7) by omega)
  by_cases c1 : y % (1 + bits BinOp.and IntKind.i64 H 15) + 1 = (1 + bits BinOp.and IntKind.i64 H 15)
  · by_cases c2 : x % (1 + bits BinOp.and IntKind.i64 W 15) + 1 = (1 + bits BinOp.and IntKind.i64 W 15)
    · by_cases c3 : c % (1 + bits BinOp.and IntKind.i64 C 7) + 1 = (1 + bits BinOp.and IntKind.i64 C 7)
      · exact walk111 H W C y x c w y1 y2 x1 x2 z1 z2 c1 c2 c3
      · exact walk110 H W C y x c w y1 y2 x1 x2 z1 z2 c1 c2 (by omega)
    · by_cases c3 : c % (1 + bits BinOp.and IntKind.i64 C 7) + 1 = (1 + bits BinOp.and IntKind.i64 C 7)
      · exact walk101 H W C y x c w y1 y2 x1 x2 z1 z2 c1 (by omega) c3
      · exact walk100 H W C y x c w y1 y2 x1 x2 z1 z2 c1 (by omega) (by omega)
  · by_cases c2 : x % (1 + bits BinOp.and IntKind.i64 W 15) + 1 = (1 + bits BinOp.and IntKind.i64 W 15)
    · by_cases c3 : c % (1 + bits BinOp.and IntKind.i64 C 7) + 1 = (1 + bits BinOp.and IntKind.i64 C 7)
      · exact walk011 H W C y x c w y1 y2 x1 x2 z1 z2 (by omega) c2 c3
      · exact walk010 H W C y x c w y1 y2 x1 x2 z1 z2 (by omega) c2 (by omega)
    · by_cases c3 : c % (1 + bits BinOp.and IntKind.i64 C 7) + 1 = (1 + bits BinOp.and IntKind.i64 C 7)
      · exact walk001 H W C y x c w y1 y2 x1 x2 z1 z2 (by omega) (by omega) c3
      · exact walk000 H W C y x c w y1 y2 x1 x2 z1 z2 (by omega) (by omega) (by omega)


theorem own : ownKnob Try.prog.godebug = none := by kernel_rfl
theorem cells5 : Try.prog.cellsOf 5 = 1 := by kernel_rfl
theorem cells23 : Try.prog.cellsOf 23 = 3 := by kernel_rfl
theorem cells40 : Try.prog.cellsOf 40 = 3 := by kernel_rfl
theorem list3 {α : Type} (l : List α) (h : (⟨l⟩ : Array α).size = 3) : ∃ a b c, l = [a, b, c] := by
  match l, h with
  | [a, b, c], _ => exact ⟨a, b, c, rfl⟩

set_option maxHeartbeats 400000 in
set_option maxRecDepth 100000 in
theorem lifted (os : Os) (started : os.Started) (H : Type) (enc : TypeId × Value → H) :
    ReturnsInHanded {} Try.checked os 8 .any (Rows.shapeStepsSpec.pre6 enc Try.prog Try.f8 Rows.shapeStepsRow.domain false) (Rows.shapeStepsSpec.post enc Try.prog Try.f8 false true false false) := by
  refine returnsInHanded_of_change (C := Try.checked) own started (by kernel_rfl) Try.func8
    (ChangeSpec.witness6 (enc := enc) (C := Try.checked) false ⟨#[], #[.agg #[.int .i64 0, .int .i64 0, .int .i64 0], .agg #[.int .u8 0, .int .u8 0, .int .u8 0]], []⟩ 8 (by kernel_rfl) (by kernel_rfl) (by kernel_rfl) (by kernel_rfl)) ?_
  intro W base args ds gs before hval0 hW hcnd _
  have hval : ∀ (j : Nat) t v, Try.f8.params[j]? = some t → args[j]? = some v → Value.okWide Try.prog W .any base t v := hval0
  have hW' := hW
  obtain ⟨p, q, hA0, hV, rfl, hfz, hnd⟩ := hW
  have hA : DataW.TrodAll enc Try.prog W 0 (fun _ => true) true Try.f8.params.toList args.toList ds p := hA0
  rw [Try.params8] at hA hval
  obtain ⟨v0, vs0, d0, ds0, p0, q0, hargs, rfl, rfl, h0, r0⟩ := trodAll_cons hA
  obtain ⟨v1, vs1, d1, ds1, p1, q1, rfl, rfl, rfl, h1, r1⟩ := trodAll_cons r0
  obtain ⟨rfl, rfl, rfl⟩ := trodAll_nil r1
  obtain rfl : args = #[v0, v1] := by cases args; simp_all
  obtain ⟨rfl, rfl⟩ := trodVars_none hV
  obtain ⟨s0, s1, s2, y0, y1, y2, m0, rfl, rfl, rfl, hy0, hy1, hy2⟩ := Joins.open_agg3 Try.underlying23 (by kernel_rfl) cells23 (hval 0 23 v0 rfl rfl) h0
  obtain ⟨z0, e0, rfl, x0⟩ := DataW.trod_int Try.underlying3 hy0
  obtain ⟨z1, e1, rfl, x1⟩ := DataW.trod_int Try.underlying3 hy1
  obtain ⟨z2, e2, rfl, x2⟩ := DataW.trod_int Try.underlying3 hy2
  simp at e0 e1 e2
  subst e0 e1 e2
  obtain ⟨cs1, rfl, hsz1, _⟩ : ∃ cs, v1 = .agg cs ∧ cs.size = Try.prog.cellsOf 40 ∧ Row.okWide Try.prog W .any base 40 cs := by
    have := hval 1 40 v1 rfl rfl
    simpa [Value.okWide, Try.underlying40] using this
  rw [cells40] at hsz1
  obtain ⟨l1⟩ := cs1
  obtain ⟨k3, k4, k5, rfl⟩ := list3 l1 hsz1
  obtain ⟨fuel1, hf1⟩ := h1
  obtain ⟨y3, y4, y5, m1, hx1, hy3, hy4, hy5⟩ := trod_array3 Try.underlying40 cells5 hf1
  obtain ⟨z3, e3, rfl, x3⟩ := DataW.trod_int Try.underlying5 hy3
  obtain ⟨z4, e4, rfl, x4⟩ := DataW.trod_int Try.underlying5 hy4
  obtain ⟨z5, e5, rfl, x5⟩ := DataW.trod_int Try.underlying5 hy5
  simp at e3 e4 e5
  subst e3 e4 e5
  simp only [Prod.mk.injEq] at hx1
  obtain ⟨rfl, rfl⟩ := hx1
  clear hA0 hval0
  simp only [List.append_nil] at hW'
  refine (walk z0 z1 z2 z3 z4 z5 x3 x4 x5 W).mono fun e W' ⟨he, hg⟩ => ?_
  subst he
  have rd0 : ∀ sp : Nat → Bool, DataW.Trod enc Try.prog W' 0 sp true 23 (.agg #[.int .i64 z0, .int .i64 z1, .int .i64 z2]) (DataW.agg [.lit (.int .i64 z0), .lit (.int .i64 z1), .lit (.int .i64 z2)]) [] := fun sp =>
    Joins.shut_agg3 (y0 := (.lit (.int .i64 z0), [])) (y1 := (.lit (.int .i64 z1), [])) (y2 := (.lit (.int .i64 z2), [])) Try.underlying23 (by kernel_rfl) cells23 ⟨1, by simp [DataW.trod, Try.underlying3, x0]⟩ ⟨1, by simp [DataW.trod, Try.underlying3, x1]⟩ ⟨1, by simp [DataW.trod, Try.underlying3, x2]⟩
  have rd1 : ∀ sp : Nat → Bool, DataW.Trod enc Try.prog W' 0 sp true 40 (.agg #[.int .u8 z3, .int .u8 z4, .int .u8 z5]) (DataW.agg [.lit (.int .u8 z3), .lit (.int .u8 z4), .lit (.int .u8 z5)]) [] := fun sp => ⟨2, by simp [DataW.trod, Value.cells, Try.underlying40, Try.underlying5, cells40, cells5, x3, x4, x5, show List.range 3 = [0, 1, 2] from rfl]⟩
  exact ⟨_, rfl, post_of_same (pa := []) (pv := []) hW' (fun _ _ _ => (trodAll_cons_mk (shut_bool Try.underlying4 _) trodAll_mk0)) (fun sp _ => (trodAll_cons_mk (rd0 sp) (trodAll_cons_mk (rd1 sp) trodAll_mk0))) (fun _ _ => rfl) rfl
    (hg.frame _) hg.2.1 (ok_one (by kernel_rfl) rfl (okWide_bool_mk Try.underlying4 _))⟩

theorem over : Rows.shapeStepsRow.holds Try.pinned (OpenSpec.ofChange Rows.shapeStepsSpec) :=
  OpenClaim.holds_of_wide 8 Try.f8 rfl rfl rfl rfl rfl rfl rfl ⟨rfl, rfl, rfl, rfl, rfl⟩ rfl rfl rfl rfl rfl (by kernel_rfl) Try.func8 (by kernel_rfl)
    (of_decide_eq_true (by kernel_rfl)) (by unfold Func.isWrapper; first | (rw [if_pos (by decide +kernel)]; kernel_rfl) | (rw [if_neg (by decide +kernel)]; exact ⟨rfl, rfl⟩))
    (fun os started H enc _ => lifted os started H enc)

/-- THE STATEMENT -/
theorem proved : Rows.ShapeStepsSaid :=
  over
#print axioms proved
end Go.Proofs.Ytcidpbdgikkndaa.shapeSteps
